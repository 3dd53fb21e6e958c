"""Exchanges of seats: which two may exchange, and a giving in which no two are left that could."""

from rimnotes.meets import meeting, total
from rimnotes.sides import side_of


def upright(picture, pairs):
    return sum([upright_of(picture, pair) for pair in pairs])


def upright_of(picture, pair):
    name, side, row = pair
    x, y = picture.place_of(name)
    return side_of(side, picture.width).across(x) * abs(y - row)


def exchangeable(picture, pairs):
    for number, one in enumerate(pairs):
        for other in pairs[number + 1:]:
            if may_exchange(picture, one, other):
                cell = meeting(picture, one, other)
                if cell is not None:
                    return (one[0], other[0], cell)
    return None


def may_exchange(picture, one, other):
    name, side, row = one
    other_name, other_side, other_row = other
    return picture.may(name, other_side, other_row) and picture.may(other_name, side, row)


def exchanged(pairs, name, other):
    seats = dict([(each, (side, row)) for each, side, row in pairs])
    giver = {name: other, other: name}
    return [(each,) + seats[giver.get(each, each)] for each in seats]


def uncrossed(picture, pairs):
    # Each exchange makes the total less, or leaves it and makes the upright number greater; so this ends.
    now = list(pairs)
    steps = []
    found = exchangeable(picture, now)
    while found is not None:
        name, other, cell = found
        now = exchanged(now, name, other)
        steps.append((name, other, cell, total(picture, now), upright(picture, now)))
        found = exchangeable(picture, now)
    return (now, steps)
