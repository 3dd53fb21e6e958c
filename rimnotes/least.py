"""The giving of the least total, with prices that show that it is least."""

from rimnotes.errors import NoRoom
from rimnotes.keeping import Seating, fits
from rimnotes.meets import is_giving


class Prices:
    def __init__(self, picture):
        self.picture = picture
        self.lengths = {}
        self.own = {}
        self.rent = dict([(seat, 0) for seat in picture.seats()])
        self.seating = Seating()

    def let_in(self, name):
        self.lengths[name] = dict([((side, row), self.picture.length(name, side, row))
                                   for side, row in self.picture.seats_for(name)])
        self.own[name] = 0
        askers = [name]
        asked_by = {}
        seat = self.ask_on(askers, asked_by)
        while seat in self.seating.holder_of:
            askers.append(self.seating.holder_of[seat])
            seat = self.ask_on(askers, asked_by)
        self.seating.hand_on(asked_by, seat)

    def ask_on(self, askers, asked_by):
        gap, asker, seat = self.nearest(askers, asked_by)
        self.shift_prices(askers, asked_by, gap)
        asked_by[seat] = asker
        return seat

    def nearest(self, askers, asked_by):
        # There is always one, since the askers can have seats at once and only one of them has none yet.
        found = None
        for asker in askers:
            for seat, length in self.lengths[asker].items():
                gap = length - self.own[asker] - self.rent[seat]
                if seat not in asked_by and (found is None or gap < found[0]):
                    found = (gap, asker, seat)
        return found

    def shift_prices(self, askers, asked_by, gap):
        # All seats asked for so far are held, so a free one keeps the rent 0. The prices of such a seat and of its
        # holder move against one another, so together they stay the length of the leader.
        for asker in askers:
            self.own[asker] += gap
        for seat in asked_by:
            self.rent[seat] -= gap


def least(picture, names):
    crowd = fits(picture, names)
    if crowd is not None:
        raise NoRoom(crowd)
    prices = Prices(picture)
    for name in names:
        prices.let_in(name)
    pairs = [(name,) + prices.seating.seat_of[name] for name in names]
    return (pairs, prices.own, prices.rent)


def fault(picture, names, pairs, own, rent):
    if not is_giving(picture, names, pairs):
        return ("giving",)
    taken = [(side, row) for name, side, row in pairs]
    for side, row in picture.seats():
        price = rent[(side, row)]
        if price > 0 or (price != 0 and (side, row) not in taken):
            return ("rent", side, row)
    for name in names:
        for side, row in picture.seats_for(name):
            together = own[name] + rent[(side, row)]
            length = picture.length(name, side, row)
            if together > length or (together != length and (name, side, row) in pairs):
                return ("pair", name, side, row)
    return None
