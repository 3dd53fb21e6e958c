"""The desk: lines that change what a hand keeps, and lines that ask for it."""

from rimnotes.columns import column_places
from rimnotes.drawings import drawn
from rimnotes.errors import NoLine
from rimnotes.hands import Hand, moved_names
from rimnotes.least import least
from rimnotes.pictures import Picture
from rimnotes.reading import frame_of, number_of, point_of, rows_of, words_of
from rimnotes.spread import MOST_HEIGHT
from rimnotes.words import is_name, is_whole
from rimnotes.writing import lines_of


class Desk:
    def __init__(self):
        self.hand = None

    def say(self, line):
        words = words_of(line)
        size = frame_of(words)
        if size is not None:
            width, height = size
            self.hand = Hand(Picture(width, height))
            return "ok"
        if self.hand is None:
            raise NoLine()
        told = asked(self.hand, words)
        return done(self.hand, words) if told is None else told


def is_form(words, form):
    wanted = form.split(" ")
    return len(words) == len(wanted) and all([is_word(word, want) for word, want in zip(words, wanted)])


def is_word(word, want):
    if want in ("ROW", "X", "Y"):
        return number_of(word) is not None
    return want in ("NAME", "SIDE") or word == want


def done(hand, words):
    before = hand.pairs()
    rows = rows_of(words)
    point = point_of(words)
    if rows is not None:
        unbar_rows(hand, words[0], rows)
    elif point is not None:
        name, x, y, sides, low, high = point
        hand.come(name, x, y, sides, low, high)
    elif is_form(words, "shut SIDE ROW"):
        hand.bar(words[1], number_of(words[2]))
    elif is_form(words, "take NAME"):
        hand.go(words[1])
    elif is_form(words, "move NAME X Y"):
        hand.shift(words[1], number_of(words[2]), number_of(words[3]))
    else:
        raise NoLine()
    return deed_text(hand, before)


def unbar_rows(hand, side, rows):
    # All rows are tried on a copy first, since none is unbarred where one of them is to be refused.
    trial = hand.picture_now()
    for row in rows:
        trial.open_seat(side, row)
    for row in rows:
        hand.unbar(side, row)


def deed_text(hand, before):
    length = hand.total()
    out = names_text([name for name, holders in hand.left_out()])
    moved = names_text(moved_names(before, hand.pairs()))
    return f"total {length} left {out} moved {moved}"


def names_text(names):
    return " ".join(names) if names else "-"


def asked(hand, words):
    heights = heights_of(words)
    if heights is not None:
        return columns_text(hand, heights)
    if is_form(words, "kept"):
        return names_text(hand.kept())
    if is_form(words, "total"):
        return str(hand.total())
    if is_form(words, "lines"):
        return "\n".join(lines_of(hand.picture_now()))
    if is_form(words, "draw"):
        return "\n".join(drawn(hand.picture_now(), hand.pairs()))
    if is_form(words, "price SIDE ROW"):
        return rent_text(hand, words[1], number_of(words[2]))
    if is_form(words, "seat NAME"):
        return seat_text(hand, words[1])
    if is_form(words, "why NAME"):
        return why_text(hand, words[1])
    if is_form(words, "price NAME"):
        return own_text(hand, words[1])
    return None


def check_point(hand, name):
    # The place is asked for its refusal, which is the very one that is due here.
    hand.picture_now().place_of(name)


def seat_text(hand, name):
    check_point(hand, name)
    for other, side, row in hand.pairs():
        if other == name:
            return f"{side} {row}"
    return "none"


def why_text(hand, name):
    check_point(hand, name)
    for other, holders in hand.left_out():
        if other == name:
            return names_text(holders)
    return "kept"


def own_text(hand, name):
    check_point(hand, name)
    pairs, own, rent = least(hand.picture_now(), hand.kept())
    return str(own[name]) if name in own else "none"


def rent_text(hand, side, row):
    # A copy is shut for its refusals, which are the very ones that are due here.
    hand.picture_now().shut_seat(side, row)
    pairs, own, rent = least(hand.picture_now(), hand.kept())
    return str(rent[(side, row)])


def heights_of(words):
    if words[:1] != ["columns"]:
        return None
    heights = {}
    for word in words[1:]:
        name, colon, figures = word.partition(":")
        height = number_of(figures)
        if not is_name(name) or name in heights or not is_whole(height, 1, MOST_HEIGHT):
            return None
        heights[name] = height
    return heights


def columns_text(hand, heights):
    for name in heights:
        check_point(hand, name)
    columns = column_places(hand.picture_now(), hand.pairs(), heights)
    notes = [f"{name} {side} {row}" for name, side, row, height in columns]
    return "; ".join(notes) if notes else "-"
