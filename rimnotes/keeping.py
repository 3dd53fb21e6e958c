"""Who is kept: which points can have seats at once, and for whom no seat is left."""


class Seating:
    def __init__(self):
        self.seat_of = {}
        self.holder_of = {}

    def hand_on(self, asked_by, free_seat):
        # The one who asked for the free seat takes it and leaves its own to the one who asked for that, and so on.
        seat = free_seat
        while seat is not None:
            name = asked_by[seat]
            left_behind = self.seat_of.get(name)
            self.seat_of[name] = seat
            self.holder_of[seat] = name
            seat = left_behind

    def crowd_with(self, name, rooms):
        # Either the name gets a seat, and there is no crowd; or all seats that were asked for are held by the others
        # of the crowd, one by each, and so are just one fewer than the crowd.
        crowd = [name]
        asked_by = {}
        number = 0
        while number < len(crowd):
            asker = crowd[number]
            for seat in rooms[asker]:
                if seat not in asked_by:
                    asked_by[seat] = asker
                    if seat not in self.holder_of:
                        self.hand_on(asked_by, seat)
                        return []
                    crowd.append(self.holder_of[seat])
            number += 1
        return crowd


def crowds(picture, names):
    rooms = dict([(name, picture.seats_for(name)) for name in names])
    seating = Seating()
    found = []
    for name in names:
        crowd = seating.crowd_with(name, rooms)
        if crowd:
            found.append(crowd)
    return found


def fits(picture, names):
    found = crowds(picture, names)
    return found[0] if found else None


def left_out(picture):
    names = [point[0] for point in picture.points()]
    return [(crowd[0], crowd[1:]) for crowd in crowds(picture, names)]


def kept(picture):
    out = [name for name, holders in left_out(picture)]
    return [point[0] for point in picture.points() if point[0] not in out]
