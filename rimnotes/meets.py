"""Where leaders meet, how long they are together, and whether pairs are a giving."""

from rimnotes.leaders import cells_of


def meeting(picture, one, other):
    name, side, row = other
    theirs = dict([(cell, True) for cell in cells_of(picture, name, side, row)])
    name, side, row = one
    for cell in cells_of(picture, name, side, row):
        if cell in theirs:
            return cell
    return None


def meetings(picture, pairs):
    told = []
    for number, one in enumerate(pairs):
        for other in pairs[number + 1:]:
            cell = meeting(picture, one, other)
            if cell is not None:
                told.append((one[0], other[0], cell))
    return told


def total(picture, pairs):
    return sum([picture.length(name, side, row) for name, side, row in pairs])


def is_giving(picture, names, pairs):
    if [name for name, side, row in pairs] != names:
        return False
    seats = [(side, row) for name, side, row in pairs]
    return len(set(seats)) == len(seats) and all([picture.may(name, side, row) for name, side, row in pairs])
