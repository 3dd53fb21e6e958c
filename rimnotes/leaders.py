"""Leaders: the way from a point to a seat, cell by cell."""

from rimnotes.sides import side_of


def cells_of(picture, name, side, row):
    # The length is asked for its refusals, which are the very ones that are due here.
    picture.length(name, side, row)
    x, y = picture.place_of(name)
    toward = side_of(side, picture.width)
    down = 1 if y < row else -1
    upright = [(x, at) for at in range(y, row, down)]
    level = [(at, row) for at in range(x, toward.rim() + toward.way(), toward.way())]
    return upright + level
