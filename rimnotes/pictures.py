"""A picture: its frame, its points in the order in which they came, and its open seats."""

from rimnotes.errors import NoCell, NoName, NoPoint, NoRow, NoSeat, NoSides, NoSize, NoWindow
from rimnotes.errors import OldPoint, OldSeat, SameColumn, SameRow, TooMany
from rimnotes.sides import side_of
from rimnotes.words import is_name, is_whole

MOST_COLUMNS = 30
MOST_ROWS = 16
MOST_POINTS = 12
MIRRORED_SIDES = {"left": "right", "right": "left", "both": "both"}


class Picture:
    def __init__(self, width, height):
        if not is_whole(width, 1, MOST_COLUMNS) or not is_whole(height, 1, MOST_ROWS):
            raise NoSize()
        self.width = width
        self.height = height
        # A key that is given another value keeps its place in a dict, so a moved point keeps its place in the order.
        self.placed = {}
        self.opened = {}

    def put(self, name, x, y, sides="both", low=1, high=None):
        highest = self.height if high is None else high
        if not is_name(name):
            raise NoName(name)
        self.check_cell(x, y)
        # A thing of another kind may have no place among a dict's keys.
        if not isinstance(sides, str) or sides not in MIRRORED_SIDES:
            raise NoSides(sides)
        if not is_whole(low, 1, self.height) or not is_whole(highest, low, self.height):
            raise NoWindow(low, highest)
        if name in self.placed:
            raise OldPoint(name)
        if len(self.placed) >= MOST_POINTS:
            raise TooMany()
        self.check_lines(name, x, y)
        self.placed[name] = (x, y, sides, low, highest)

    def take(self, name):
        self.check_name(name)
        self.placed.pop(name)

    def move(self, name, x, y):
        self.check_name(name)
        self.check_cell(x, y)
        self.check_lines(name, x, y)
        self.placed[name] = (x, y) + self.placed[name][2:]

    def open_seat(self, side, row):
        self.check_seat(side, row)
        if (side, row) in self.opened:
            raise OldSeat(side, row)
        self.opened[(side, row)] = True

    def shut_seat(self, side, row):
        self.check_seat(side, row)
        if (side, row) not in self.opened:
            raise NoSeat(side, row)
        self.opened.pop((side, row))

    def points(self):
        return [(name,) + rest for name, rest in self.placed.items()]

    def seats(self):
        # The word "left" comes ahead of "right", so the left seats come first.
        return sorted(self.opened)

    def place_of(self, name):
        self.check_name(name)
        return self.placed[name][:2]

    def may(self, name, side, row):
        self.check_name(name)
        self.check_seat(side, row)
        x, y, sides, low, high = self.placed[name]
        return (side, row) in self.opened and sides in ("both", side) and low <= row <= high

    def length(self, name, side, row):
        x, y = self.place_of(name)
        self.check_seat(side, row)
        return side_of(side, self.width).across(x) + abs(y - row)

    def seats_for(self, name):
        self.check_name(name)
        return [(side, row) for side, row in self.seats() if self.may(name, side, row)]

    def copied(self):
        return picture_with(self.width, self.height, self.points(), self.seats())

    def mirrored(self):
        columns = self.width + 1
        points = [(name, columns - x, y, MIRRORED_SIDES[sides], low, high)
                  for name, x, y, sides, low, high in self.points()]
        seats = [(MIRRORED_SIDES[side], row) for side, row in self.seats()]
        return picture_with(self.width, self.height, points, seats)

    def turned(self):
        rows = self.height + 1
        points = [(name, x, rows - y, sides, rows - high, rows - low)
                  for name, x, y, sides, low, high in self.points()]
        seats = [(side, rows - row) for side, row in self.seats()]
        return picture_with(self.width, self.height, points, seats)

    def check_name(self, name):
        if not is_name(name) or name not in self.placed:
            raise NoPoint(name)

    def check_cell(self, x, y):
        if not is_whole(x, 1, self.width) or not is_whole(y, 1, self.height):
            raise NoCell(x, y)

    def check_lines(self, name, x, y):
        # A point's own column and row are free for itself.
        others = [other for other in self.points() if other[0] != name]
        for other in others:
            if other[1] == x:
                raise SameColumn(other[0])
        for other in others:
            if other[2] == y:
                raise SameRow(other[0])

    def check_seat(self, side, row):
        side_of(side, self.width)
        if not is_whole(row, 1, self.height):
            raise NoRow(row)


def picture_with(width, height, points, seats):
    picture = Picture(width, height)
    for name, x, y, sides, low, high in points:
        picture.put(name, x, y, sides, low, high)
    for side, row in seats:
        picture.open_seat(side, row)
    return picture
