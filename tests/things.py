"""What several tests need: things of every kind, small pictures, and a plain look at what was refused."""

import unittest

from rimnotes.errors import RimError
from rimnotes.pictures import Picture

MANY = 12345678901234567890
ORDINARY_WIDTH, ORDINARY_HEIGHT = 9, 7


class EqualToAll:
    """A thing that calls itself equal to, and between, whatever it is held against, with the hash of a told one."""

    def __init__(self, like):
        self.like = like

    def __eq__(self, other):
        return True

    def __le__(self, other):
        return True

    def __ge__(self, other):
        return True

    def __lt__(self, other):
        return False

    def __gt__(self, other):
        return False

    def __hash__(self):
        return hash(self.like)

    def __len__(self):
        return 1


class NoKey:
    """A thing that can be no key and is compared with nothing."""

    __hash__ = None

    def __eq__(self, other):
        raise RuntimeError("compared")


# None of these is a name, a side, a word for sides, a column, a row or a size.
THINGS = [
    True, False, None, 0, -1, -7, 31, 17, MANY, -MANY, 10 ** 5000,
    "", "ab", "A", "1", " ", "a ", "left ", "Left", "bothe", "a\n", "\t",
    [], ["a"], [1], ["left"], [[1], [2]], (), ("a",), (1,), ("left", 1), ("both",), {}, {"a": 1}, {1: 1}, {"left": [1]},
    {1}, frozenset(["a"]), b"a", b"left", object(), int, str, print,
    EqualToAll("both"), EqualToAll("left"), EqualToAll("a"), EqualToAll("c"), EqualToAll(1), NoKey(),
]


def caught(error, call, *handed_in):
    """The refusal of a call, or a text that tells what came instead."""
    try:
        answer = call(*handed_in)
    except error as refusal:
        return refusal
    return "not refused: " + repr(answer)


def state(picture):
    return (picture.width, picture.height, picture.points(), picture.seats())


def ordinary_picture():
    picture = Picture(ORDINARY_WIDTH, ORDINARY_HEIGHT)
    picture.put("c", 3, 2)
    picture.put("a", 8, 6, "left", 2, 5)
    picture.put("b", 5, 4, "right", 3, 3)
    for side, row in [("right", 7), ("left", 3), ("right", 3), ("left", 2), ("left", 6), ("right", 1)]:
        picture.open_seat(side, row)
    return picture


class RefusalCase(unittest.TestCase):
    def assert_refused(self, error, fields, call, *handed_in):
        """That a call with the ordinary picture and these things is refused so, and changes nothing."""
        picture = ordinary_picture()
        before = state(picture)
        refusal = caught(RimError, call, picture, *handed_in)
        self.assertIs(type(refusal), error)
        self.assertEqual(sorted(vars(refusal)), sorted(fields))
        for field, value in fields.items():
            self.assertIs(getattr(refusal, field), value)
        self.assertEqual(state(picture), before)


def picture_of_points(width, height, points, seats):
    picture = Picture(width, height)
    for point in points:
        picture.put(*point)
    for seat in seats:
        picture.open_seat(*seat)
    return picture


def full_picture():
    """Twelve points in a frame of 30 x 16, a to l, in the columns and rows 1 to 12."""
    picture = Picture(30, 16)
    for number, name in enumerate("abcdefghijkl", 1):
        picture.put(name, number, number)
    return picture


def rim_seats(height):
    return [(side, row) for side in ("left", "right") for row in range(1, height + 1)]


def walked(width, x, y, side, row):
    """A leader's cells, step by step, beside the program's own listing."""
    cells = [(x, y)]
    while y != row:
        y += 1 if y < row else -1
        cells.append((x, y))
    while 0 < x <= width:
        x += -1 if side == "left" else 1
        cells.append((x, y))
    return cells
