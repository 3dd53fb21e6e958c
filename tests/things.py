"""What several tests need: things of every kind, small pictures, and a plain look at what was refused."""

import itertools
import random
import unittest

from rimnotes.errors import RimError
from rimnotes.pictures import Picture

MANY = 12345678901234567890
ORDINARY_WIDTH, ORDINARY_HEIGHT = 9, 7


class EqualToAll:
    """A thing that calls itself equal to, and between, whatever it is held against, with the hash of a told one."""

    def __init__(self, like):
        self.like = like

    def __eq__(self, other):
        return True

    def __le__(self, other):
        return True

    def __ge__(self, other):
        return True

    def __lt__(self, other):
        return False

    def __gt__(self, other):
        return False

    def __hash__(self):
        return hash(self.like)

    def __len__(self):
        return 1


class NoKey:
    """A thing that can be no key and is compared with nothing."""

    __hash__ = None

    def __eq__(self, other):
        raise RuntimeError("compared")


# None of these is a name, a side, a word for sides, a column, a row or a size.
THINGS = [
    True, False, None, 0, -1, -7, 31, 17, MANY, -MANY, 10 ** 5000,
    "", "ab", "A", "1", " ", "a ", "left ", "Left", "bothe", "a\n", "\t",
    [], ["a"], [1], ["left"], [[1], [2]], (), ("a",), (1,), ("left", 1), ("both",), {}, {"a": 1}, {1: 1}, {"left": [1]},
    {1}, frozenset(["a"]), b"a", b"left", object(), int, str, print,
    EqualToAll("both"), EqualToAll("left"), EqualToAll("a"), EqualToAll("c"), EqualToAll(1), NoKey(),
]


def caught(error, call, *handed_in):
    """The refusal of a call, or a text that tells what came instead."""
    try:
        answer = call(*handed_in)
    except error as refusal:
        return refusal
    return "not refused: " + repr(answer)


def state(picture):
    return (picture.width, picture.height, picture.points(), picture.seats())


def ordinary_picture():
    picture = Picture(ORDINARY_WIDTH, ORDINARY_HEIGHT)
    picture.put("c", 3, 2)
    picture.put("a", 8, 6, "left", 2, 5)
    picture.put("b", 5, 4, "right", 3, 3)
    for side, row in [("right", 7), ("left", 3), ("right", 3), ("left", 2), ("left", 6), ("right", 1)]:
        picture.open_seat(side, row)
    return picture


class RefusalCase(unittest.TestCase):
    def assert_refused(self, error, fields, call, *handed_in):
        """That a call with the ordinary picture and these things is refused so, and changes nothing."""
        picture = ordinary_picture()
        before = state(picture)
        refusal = caught(RimError, call, picture, *handed_in)
        self.assertIs(type(refusal), error)
        self.assertEqual(sorted(vars(refusal)), sorted(fields))
        for field, value in fields.items():
            self.assertIs(getattr(refusal, field), value)
        self.assertEqual(state(picture), before)


def picture_of_points(width, height, points, seats):
    picture = Picture(width, height)
    for point in points:
        picture.put(*point)
    for seat in seats:
        picture.open_seat(*seat)
    return picture


def full_picture():
    """Twelve points in a frame of 30 x 16, a to l, in the columns and rows 1 to 12."""
    picture = Picture(30, 16)
    for number, name in enumerate("abcdefghijkl", 1):
        picture.put(name, number, number)
    return picture


def rim_seats(height):
    return [(side, row) for side in ("left", "right") for row in range(1, height + 1)]


def walked(width, x, y, side, row):
    """A leader's cells, step by step, beside the program's own listing."""
    cells = [(x, y)]
    while y != row:
        y += 1 if y < row else -1
        cells.append((x, y))
    while 0 < x <= width:
        x += -1 if side == "left" else 1
        cells.append((x, y))
    return cells


def first_common(width, one, other):
    """The first cell of one walk that the other has, too; each walk is told by (x, y, side, row)."""
    common = [cell for cell in walked(width, *one) if cell in walked(width, *other)]
    return common[0] if common else None


def chance_pictures(seed, count, most_points=4, greatest=5):
    """Small pictures of many sorts, the same ones for the same seed."""
    chance = random.Random(seed)
    for number in range(count):
        width, height = chance.randint(1, greatest), chance.randint(1, greatest)
        points = chance.randint(0, min(width, height, most_points))
        columns = chance.sample(range(1, width + 1), points)
        rows = chance.sample(range(1, height + 1), points)
        picture = Picture(width, height)
        for name, x, y in zip(chance.sample("abcdefghijklmnopqrstuvwxyz", points), columns, rows):
            low = chance.randint(1, height)
            window = [(), (1,), (low, chance.randint(low, height))][chance.randint(0, 2)]
            picture.put(name, x, y, chance.choice(["left", "right", "both"]), *window)
        many = chance.randint(1, 9)
        for seat in rim_seats(height):
            if chance.randint(1, 10) <= many:
                picture.open_seat(*seat)
        yield picture


def crowded_pictures(seed, count, points=3, height=4):
    """Small pictures of a told height with so many points, most of which may have most of the seats of one rim."""
    chance = random.Random(seed)
    for number in range(count):
        width = chance.randint(points, points + 2)
        picture = Picture(width, height)
        columns = chance.sample(range(1, width + 1), points)
        rows = chance.sample(range(1, height + 1), points)
        for name, x, y in zip(chance.sample("abcdefghijklmnopqrstuvwxyz", points), columns, rows):
            window = chance.choice([(), (), (1, height - 1), (2, height)])
            picture.put(name, x, y, *([chance.choice(["both", "left"]), *window] if window else []))
        seats = rim_seats(height)
        for seat in seats[:height] + chance.sample(seats[height:], chance.randint(0, 2)):
            picture.open_seat(*seat)
        yield picture


def one_sided_pictures(seed, count):
    """Pictures in which several points crowd about few seats of one rim, so that several givings are least."""
    chance = random.Random(seed)
    for number in range(count):
        side = chance.choice(["left", "right"])
        picture = Picture(6, 8)
        rows = chance.sample(range(1, 9), 4)
        for name, x, y in zip("dacb", chance.sample(range(1, 7), 4), rows):
            picture.put(name, x, y, chance.choice([side, "both"]), *chance.choice([(), (1, 7), (2, 8)]))
        for row in chance.sample(range(1, 9), 5):
            picture.open_seat(side, row)
        yield picture


def names_of(picture):
    return [point[0] for point in picture.points()]


def all_givings(picture, names):
    """Every giving of these points, by a plain trying of all their seats."""
    for seats in itertools.product(*[picture.seats_for(name) for name in names]):
        if len(set(seats)) == len(seats):
            yield [(name, *seat) for name, seat in zip(names, seats)]


def can_sit(picture, names):
    return any(True for giving in all_givings(picture, names))


def room_of(picture, names):
    """The open seats that at least one of the points may have."""
    return [seat for seat in picture.seats() if any(picture.may(name, *seat) for name in names)]


def exchanges_in(picture, pairs):
    """All that can be exchanged in a giving, by a plain listing of cells: a dict from two names to the cell."""
    found = {}
    for one, other in itertools.combinations(pairs, 2):
        walk, other_walk = [picture.place_of(pair[0]) + pair[1:] for pair in (one, other)]
        cell = first_common(picture.width, walk, other_walk)
        if cell and picture.may(one[0], *other[1:]) and picture.may(other[0], *one[1:]):
            found[(one[0], other[0])] = cell
    return found


def plain_total(picture, pairs):
    return sum(len(walked(picture.width, *picture.place_of(name), *seat)) - 1 for name, *seat in pairs)


def plainly_kept(picture):
    names = []
    for name in names_of(picture):
        if can_sit(picture, names + [name]):
            names.append(name)
    return names


def chance_pairs(picture, chance):
    """Pairs of some of the points, in any order, with any seats of the rims, open or shut."""
    names = names_of(picture)
    some = chance.sample(names, chance.randint(0, len(names)))
    return [(name, *seat) for name, seat in zip(some, chance.sample(rim_seats(picture.height), len(some)))]


def mirrored_pairs(pairs):
    return [(name, "right" if side == "left" else "left", row) for name, side, row in pairs]


def turned_pairs(pairs, height):
    return [(name, side, height + 1 - row) for name, side, row in pairs]


def plain_drawing(picture, pairs):
    """The drawing, sign by sign, as [81] tells each."""
    return ["".join(plain_sign(picture, pairs, (column, row)) for column in range(picture.width + 2))
            for row in range(1, picture.height + 1)]


def plain_sign(picture, pairs, cell):
    column, row = cell
    if column in (0, picture.width + 1):
        side = "left" if column == 0 else "right"
        named = [pair[0] for pair in pairs if pair[1:] == (side, row)]
        return named[0] if named else ("." if (side, row) in picture.seats() else " ")
    for point in picture.points():
        if point[1:3] == cell:
            return point[0]
    through = [pair for pair in pairs if cell in walked(picture.width, *picture.place_of(pair[0]), *pair[1:])]
    if len(through) != 1:
        return "#" if through else " "
    in_column, in_row = picture.place_of(through[0][0])[0] == column, through[0][2] == row
    return "+" if in_column and in_row else ("|" if in_column else "-")
