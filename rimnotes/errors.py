"""The refusals: a class for each, straight under RimError, with its fields as values."""


class RimError(ValueError):
    pass


class NoSize(RimError):
    pass


class NoName(RimError):
    def __init__(self, name):
        self.name = name


class NoCell(RimError):
    def __init__(self, x, y):
        self.x = x
        self.y = y


class NoSides(RimError):
    def __init__(self, sides):
        self.sides = sides


class NoWindow(RimError):
    def __init__(self, low, high):
        self.low = low
        self.high = high


class OldPoint(RimError):
    def __init__(self, name):
        self.name = name


class NoPoint(RimError):
    def __init__(self, name):
        self.name = name


class TooMany(RimError):
    pass


class SameColumn(RimError):
    def __init__(self, name):
        self.name = name


class SameRow(RimError):
    def __init__(self, name):
        self.name = name


class NoSide(RimError):
    def __init__(self, side):
        self.side = side


class NoRow(RimError):
    def __init__(self, row):
        self.row = row


class OldSeat(RimError):
    def __init__(self, side, row):
        self.side = side
        self.row = row


class NoSeat(RimError):
    def __init__(self, side, row):
        self.side = side
        self.row = row


class NoRoom(RimError):
    def __init__(self, holders):
        own = list(holders)
        # Python would keep the asker's list for the error's words, and what is done to it would change them.
        RimError.__init__(self, own)
        self.holders = own


class NoNotes(RimError):
    pass


class TooFull(RimError):
    def __init__(self, first, last):
        self.first = first
        self.last = last


class TooTall(RimError):
    def __init__(self, side):
        self.side = side


class BadLine(RimError):
    def __init__(self, line):
        self.line = line


class BadDrawing(RimError):
    def __init__(self, row, column):
        self.row = row
        self.column = column


class NoLine(RimError):
    pass
