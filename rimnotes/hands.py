"""A hand: it changes its picture, and keeps an answer to it."""

from rimnotes.answers import answer, is_answer
from rimnotes.keeping import kept, left_out
from rimnotes.meets import total


class Hand:
    def __init__(self, picture):
        self.picture = picture.copied()
        self.given = answer(self.picture)[0]

    def come(self, name, x, y, sides="both", low=1, high=None):
        self.picture.put(name, x, y, sides, low, high)
        return self.settled()

    def go(self, name):
        self.picture.take(name)
        return self.settled()

    def shift(self, name, x, y):
        self.picture.move(name, x, y)
        return self.settled()

    def unbar(self, side, row):
        self.picture.open_seat(side, row)
        return self.settled()

    def bar(self, side, row):
        self.picture.shut_seat(side, row)
        return self.settled()

    def kept(self):
        return kept(self.picture)

    def left_out(self):
        return left_out(self.picture)

    def pairs(self):
        return list(self.given)

    def total(self):
        return total(self.picture, self.given)

    def picture_now(self):
        return self.picture.copied()

    def settled(self):
        before = self.given
        # Pairs that still are an answer stay, so that no note wanders without need.
        if not is_answer(self.picture, before):
            self.given = answer(self.picture)[0]
        out = [name for name, holders in self.left_out()]
        return (out, self.total(), moved_names(before, self.given))


def moved_names(before, now):
    seats = dict([(name, (side, row)) for name, side, row in before])
    return [name for name, side, row in now if seats.get(name, (side, row)) != (side, row)]
