"""The answer to a picture: the kept points with seats of the least total, no two of which can be exchanged."""

from rimnotes.exchanges import exchangeable, uncrossed
from rimnotes.keeping import kept
from rimnotes.least import least
from rimnotes.meets import is_giving, total


def answer(picture):
    pairs, own, rent = least(picture, kept(picture))
    # An exchange never makes the total greater, so it is still the least one behind all of them.
    apart, steps = uncrossed(picture, pairs)
    return (apart, total(picture, apart))


def is_answer(picture, pairs):
    names = kept(picture)
    if not is_giving(picture, names, pairs):
        return False
    shortest, own, rent = least(picture, names)
    return total(picture, pairs) == total(picture, shortest) and exchangeable(picture, pairs) is None
