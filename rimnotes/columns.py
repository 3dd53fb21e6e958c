"""The columns of notes beside both rims."""

from rimnotes.errors import TooTall
from rimnotes.spread import least_places


def column_places(picture, pairs, heights):
    firsts = rim_firsts(picture, pairs, heights, "left")
    firsts.update(rim_firsts(picture, pairs, heights, "right"))
    return [(name, side, firsts[name], heights.get(name, 1)) for name, side, row in pairs]


def rim_firsts(picture, pairs, heights, rim):
    column = sorted([(row, name) for name, side, row in pairs if side == rim])
    notes = [(heights.get(name, 1), 1, picture.height, row) for row, name in column]
    # All windows are the whole height, so there is room for all notes just where they are together no higher.
    if sum([note[0] for note in notes]) > picture.height:
        raise TooTall(rim)
    return dict(zip([name for row, name in column], least_places(notes)))
