"""Notes in a column: the places that are together nearest to their wishes, and pushes that show it."""

from rimnotes.errors import NoNotes, TooFull
from rimnotes.words import is_whole

MOST_NOTES = 12
MOST_HEIGHT = 9
FARTHEST = 99


def spread(notes):
    if not are_notes(notes):
        raise NoNotes()
    check_room(notes)
    places = least_places(notes)
    return (places, least_pushes(notes, places))


def is_spread(notes, places, pushes):
    if len(places) != len(notes) or len(pushes) != max(len(notes) - 1, 0):
        return False
    return are_allowed(notes, places) and are_right_pushes(notes, places, pushes)


def are_notes(thing):
    return isinstance(thing, list) and len(thing) <= MOST_NOTES and all([is_note(note) for note in thing])


def is_note(thing):
    if not isinstance(thing, tuple) or len(thing) != 4 or not is_whole(thing[0], 1, MOST_HEIGHT):
        return False
    return all([is_whole(number, -FARTHEST, FARTHEST) for number in thing[1:]])


def check_room(notes):
    for first in range(len(notes)):
        together = 0
        for last in range(first, len(notes)):
            together += notes[last][0]
            if together > notes[last][2] - notes[first][1] + 1:
                raise TooFull(first, last)


def least_places(notes):
    ways = [(-FARTHEST, 0, [])]
    for note in notes:
        ways = ways_with(ways, note)
    return ways[-1][2]


def ways_with(ways, note):
    # A way is the first row that is free behind its notes, their stray and their places. Of ways that end later only
    # those with less stray are of use: so ways end later and later with less and less stray, and the best is the last.
    height, low, high, wish = note
    found = []
    for place in range(low, high - height + 2):
        ahead = [way for way in ways if way[0] <= place]
        if ahead:
            end, stray, places = ahead[-1]
            more = stray + abs(place - wish)
            if not found or more < found[-1][1]:
                found.append((place + height, more, places + [place]))
    return found


def least_rise(note, place):
    height, low, high, wish = note
    if place + height - 1 == high:
        return None
    return 1 if place < wish else -1


def most_rise(note, place):
    height, low, high, wish = note
    if place == low:
        return None
    return -1 if place > wish else 1


def least_pushes(notes, places):
    # These are the least numbers from 0 on that keep to all rises. Any right pushes are no less, so these are 0
    # wherever those have to be: where two notes do not touch, and at both ends.
    pushes = [0] * (len(notes) + 1)
    for number in range(len(notes)):
        rise = least_rise(notes[number], places[number])
        if rise is not None:
            pushes[number + 1] = max(0, pushes[number] + rise)
    for number in range(len(notes) - 1, -1, -1):
        rise = most_rise(notes[number], places[number])
        if rise is not None:
            pushes[number] = max(pushes[number], pushes[number + 1] - rise)
    return pushes[1:-1]


def are_allowed(notes, places):
    end = -FARTHEST
    for note, place in zip(notes, places):
        height, low, high, wish = note
        if place < low or place + height - 1 > high or place < end:
            return False
        end = place + height
    return True


def are_right_pushes(notes, places, pushes):
    for number, push in enumerate(pushes):
        apart = places[number] + notes[number][0] < places[number + 1]
        if push < 0 or (push > 0 and apart):
            return False
    around = [0] + pushes + [0]
    return all([is_right_rise(notes[number], places[number], around[number + 1] - around[number])
                for number in range(len(notes))])


def is_right_rise(note, place, rise):
    least = least_rise(note, place)
    most = most_rise(note, place)
    return (least is None or rise >= least) and (most is None or rise <= most)
