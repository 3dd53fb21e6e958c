"""[6] to [8], [70] to [73]: notes, their places, and pushes that show that the stray is least."""

import itertools
import random
import unittest

from rimnotes.errors import NoNotes, RimError, TooFull
from rimnotes.spread import is_spread, spread
from things import MANY, THINGS, EqualToAll, caught

GOOD = (2, 1, 9, 4)
# Each of these stands where a note is asked for and is none.
NO_NOTES = [
    (0, 1, 9, 4), (10, 1, 9, 4), (-1, 1, 9, 4), (True, 1, 9, 4), (MANY, 1, 9, 4), ("2", 1, 9, 4), (None, 1, 9, 4),
    (2, -100, 9, 4), (2, 100, 99, 4), (2, True, 9, 4), (2, False, 9, 4), (2, "1", 9, 4), (2, None, 9, 4),
    (2, 1, -100, 4), (2, 1, 100, 4), (2, 1, True, 4), (2, 1, "9", 4), (2, 1, None, 4), (2, 1, MANY, 4),
    (2, 1, 9, -100), (2, 1, 9, 100), (2, 1, 9, False), (2, 1, 9, "4"), (2, 1, 9, None), (2, 1, 9, [4]),
    [2, 1, 9, 4], (), (2,), (2, 1, 9), (2, 1, 9, 4, 4), "2194", {2: 1}, None, True, 2, (GOOD,), [GOOD],
    EqualToAll(GOOD), (EqualToAll(2), 1, 9, 4), (2, EqualToAll(1), 9, 4),
]


def ends_of(note, place):
    return place, place + note[0] - 1


def plainly_allowed(notes, places):
    if len(places) != len(notes):
        return False
    spans = [ends_of(note, place) for note, place in zip(notes, places)]
    inside = all(note[1] <= first and last <= note[2] for note, (first, last) in zip(notes, spans))
    return inside and all(one[1] < other[0] for one, other in zip(spans, spans[1:]))


def all_places(notes):
    for places in itertools.product(*[range(low, high + 1) for height, low, high, wish in notes]):
        if plainly_allowed(notes, places):
            yield list(places)


def stray_of(notes, places):
    return sum(abs(place - note[3]) for note, place in zip(notes, places))


def faults_of(notes, places, pushes):
    """The sentences of [72] that do not hold, one by one."""
    found = []
    for number, push in enumerate(pushes):
        if push < 0:
            found.append("below 0")
        if push != 0 and places[number] + notes[number][0] != places[number + 1]:
            found.append("no touch")
    for number, (height, low, high, wish) in enumerate(notes):
        ahead = pushes[number - 1] if number > 0 else 0
        behind = pushes[number] if number < len(pushes) else 0
        rise, place = behind - ahead, places[number]
        if place != low and rise > 1:
            found.append("more than 1")
        if place != low and place > wish and rise > -1:
            found.append("more than -1")
        if place + height - 1 != high and rise < -1:
            found.append("less than -1")
        if place + height - 1 != high and place < wish and rise < 1:
            found.append("less than 1")
    return found


def plainly_right(notes, places, pushes):
    if len(pushes) != max(0, len(notes) - 1) or not plainly_allowed(notes, places):
        return False
    return faults_of(notes, places, pushes) == []


def chance_notes(seed, count, most=4, span=4):
    chance = random.Random(seed)
    for number in range(count):
        notes = []
        for each in range(chance.randint(0, most)):
            low = chance.randint(-span, span)
            high = low + chance.randint(-1, 2 * span)
            notes.append((chance.randint(1, 3), low, high, chance.randint(-span - 1, span + 3)))
        yield notes


class SpreadCase(unittest.TestCase):
    def assert_spread(self, notes):
        """That places and pushes are told as [72] asks; the places come back."""
        handed_in = list(notes)
        told = spread(notes)
        self.assertEqual(notes, handed_in)
        self.assertIs(type(told), tuple)
        places, pushes = told
        self.assertEqual([type(places), type(pushes)], [list, list])
        for number in places + pushes:
            self.assertIs(type(number), int)
        self.assertTrue(plainly_allowed(notes, places), (notes, places))
        self.assertEqual(len(pushes), max(0, len(notes) - 1))
        self.assertEqual(faults_of(notes, places, pushes), [], (notes, told))
        self.assertIs(is_spread(notes, places, pushes), True)
        self.assertEqual(spread(list(notes)), told)
        return places

    def assert_too_full(self, notes):
        handed_in = list(notes)
        refusal = caught(RimError, spread, notes)
        self.assertIs(type(refusal), TooFull)
        first, last = refusal.first, refusal.last
        self.assertEqual([type(first), type(last)], [int, int])
        self.assertLessEqual(0, first)
        self.assertLessEqual(first, last)
        self.assertLess(last, len(notes))
        together = sum(note[0] for note in notes[first:last + 1])
        self.assertGreater(together, notes[last][2] - notes[first][1] + 1)
        self.assertEqual(notes, handed_in)
        again = caught(RimError, spread, list(notes))
        self.assertEqual((again.first, again.last), (first, last))
        return (first, last)

    def assert_no_notes(self, thing):
        refusal = caught(RimError, spread, thing)
        self.assertIs(type(refusal), NoNotes)
        self.assertEqual(vars(refusal), {})


class NoNotesTest(SpreadCase):
    def test_things_that_are_no_list(self):
        for thing in THINGS + [(GOOD,), (GOOD, GOOD), {0: GOOD}, "note", iter([GOOD])]:
            if not (isinstance(thing, list) and len(thing) == 0):
                self.assert_no_notes(thing)

    def test_things_that_are_no_notes(self):
        for thing in NO_NOTES + THINGS:
            self.assert_no_notes([thing])
            self.assert_no_notes([GOOD, thing])
            self.assert_no_notes([thing, GOOD])

    def test_ahead_of_too_full(self):
        full = (9, 1, 3, 1)
        self.assert_too_full([full])
        for thing in NO_NOTES:
            self.assert_no_notes([full, thing])
            self.assert_no_notes([thing, full])
        self.assert_no_notes([full] * 13)

    def test_twelve_and_thirteen(self):
        self.assertEqual(len(self.assert_spread([(1, -99, 99, 0)] * 12)), 12)
        self.assert_no_notes([(1, -99, 99, 0)] * 13)
        self.assert_no_notes([(1, -99, 99, 0)] * 14)

    def test_the_ends_of_what_is_allowed(self):
        for note in [(1, -99, 99, 0), (9, -99, 99, 0), (1, -99, -99, -99), (1, 99, 99, 99), (1, -99, -99, 99),
                     (1, 99, 99, -99), (9, -99, 99, 99), (9, 91, 99, -99), (1, 0, 0, 0)]:
            self.assert_spread([note])
        self.assertEqual(spread([(9, -99, 99, 99)]), ([91], []))
        self.assertEqual(spread([(9, -99, 99, -99)]), ([-99], []))
        self.assertEqual(self.assert_too_full([(1, 99, -99, 0)]), (0, 0))


class TooFullTest(SpreadCase):
    def test_one_note(self):
        for height, low, high in [(2, 1, 1), (9, 1, 8), (1, 1, 0), (1, 2, 0), (3, 5, -5), (1, 99, -99)]:
            self.assertEqual(self.assert_too_full([(height, low, high, 4)]), (0, 0))

    def test_a_window_whose_high_is_just_below_the_low(self):
        self.assertEqual(self.assert_too_full([(2, 1, 9, 4), (1, 4, 3, 4)]), (1, 1))
        self.assertEqual(self.assert_too_full([(2, 1, 9, 4), (1, 4, 3, 4), (2, 1, 20, 4)]), (1, 1))

    def test_together(self):
        self.assertEqual(self.assert_too_full([(2, 1, 5, 1), (2, 1, 5, 1), (2, 1, 5, 1)]), (0, 2))
        self.assertEqual(self.assert_too_full([(1, 1, 20, 1), (3, 4, 8, 1), (3, 1, 8, 1), (1, 1, 20, 1)]), (1, 2))

    def test_a_high_that_comes_ahead_of_the_low_of_another(self):
        self.assertEqual(self.assert_too_full([(1, 5, 9, 5), (1, 1, 5, 1)]), (0, 1))
        self.assertEqual(self.assert_spread([(1, 5, 9, 5), (1, 1, 6, 1)]), [5, 6])

    def test_beside_a_plain_trying(self):
        full = 0
        for notes in chance_notes("full", 1500):
            if not any(True for places in all_places(notes)):
                self.assert_too_full(notes)
                full += 1
            else:
                self.assert_spread(notes)
        self.assertGreater(full, 300)

    def test_just_room_and_one_row_less(self):
        for count in range(1, 13):
            notes = [(8, -48, -49 + 8 * count, 0)] * count
            self.assertEqual(self.assert_spread(notes), [-48 + 8 * number for number in range(count)])
            self.assert_too_full([(8, -48, -50 + 8 * count, 0)] * count)


class SpreadTest(SpreadCase):
    def test_by_hand(self):
        for notes, wanted in [
            ([], ([], [])),
            ([(1, 1, 9, 4)], ([4], [])),
            ([(3, 1, 9, 9)], ([7], [])),
            ([(3, 5, 9, 1)], ([5], [])),
            ([(2, 1, 9, 2), (2, 1, 9, 4)], ([2, 4], [0])),
            ([(2, 1, 9, 2), (2, 1, 9, 7)], ([2, 7], [0])),
        ]:
            self.assertEqual(spread(notes), wanted)
            self.assert_spread(notes)

    def test_two_that_wish_for_one_place(self):
        places = self.assert_spread([(2, 1, 9, 4), (2, 1, 9, 4)])
        self.assertEqual(stray_of([(2, 1, 9, 4)] * 2, places), 2)
        self.assertEqual(spread([(2, 1, 9, 4), (2, 1, 9, 4)])[1], [1])

    def test_pushed_to_the_low_and_to_the_high(self):
        self.assertEqual(self.assert_spread([(1, 1, 9, 1), (1, 1, 9, 1), (1, 1, 9, 1)]), [1, 2, 3])
        self.assertEqual(self.assert_spread([(1, 1, 9, 9), (1, 1, 9, 9), (1, 1, 9, 9)]), [7, 8, 9])

    def test_windows_of_one_place(self):
        self.assertEqual(self.assert_spread([(2, 3, 4, 9), (3, 5, 7, -9), (1, 8, 8, 0)]), [3, 5, 8])

    def test_beside_a_plain_trying_of_all_places(self):
        for notes in chance_notes("least", 1500):
            strays = [stray_of(notes, places) for places in all_places(notes)]
            if strays:
                self.assertEqual(stray_of(notes, self.assert_spread(notes)), min(strays))

    def test_many_notes_in_few_rows(self):
        chance = random.Random("few rows")
        for turn in range(60):
            count = chance.randint(5, 7)
            notes = [(chance.randint(1, 2), 1, 13, chance.randint(-2, 14)) for each in range(count)]
            strays = [stray_of(notes, places) for places in self.standing(notes, 1, 13)]
            if strays:
                self.assertEqual(stray_of(notes, self.assert_spread(notes)), min(strays))

    def standing(self, notes, low, high):
        """All allowed places of notes whose windows are all alike, note after note."""
        if not notes:
            yield []
            return
        for place in range(low, high - sum(note[0] for note in notes) + 2):
            for rest in self.standing(notes[1:], place + notes[0][0], high):
                yield [place] + rest

    def test_twelve_notes(self):
        chance = random.Random("twelve notes")
        for turn in range(60):
            notes = [(chance.randint(1, 9), chance.randint(-99, -60), chance.randint(60, 99), chance.randint(-99, 99))
                     for each in range(12)]
            self.assert_spread(notes)
        for wish in (-99, 0, 99):
            self.assert_spread([(9, -99, 99, wish)] * 12)
            self.assert_spread([(9, -54, 53, wish)] * 12)

    def test_each_bound_stands_at_the_low_and_at_the_high(self):
        # The pushes at the ends of the windows may be greater than any rise of 1 would allow.
        self.assertEqual(spread([(1, 1, 9, 1), (1, 2, 9, 1), (1, 3, 9, 1)])[0], [1, 2, 3])
        notes = [(1, 1, 9, 5), (1, 1, 9, 5), (1, 1, 9, 5), (1, 1, 9, 5), (1, 1, 3, 1)]
        self.assert_too_full(notes)
        notes = [(1, 1, 9, 5), (1, 1, 9, 5), (1, 1, 9, 5), (1, 1, 4, 9)]
        self.assertEqual(self.assert_spread(notes), [1, 2, 3, 4])

    def test_the_askers_own(self):
        notes = [(2, 1, 9, 4), (2, 1, 9, 4)]
        told = spread(notes)
        wanted = (list(told[0]), list(told[1]))
        told[0].clear()
        told[1].append(7)
        self.assertEqual(spread(notes), wanted)
        told = spread(notes)
        notes.clear()
        self.assertEqual(told, wanted)


class IsSpreadTest(SpreadCase):
    def assert_told(self, wanted, notes, places, pushes):
        handed_in = (list(notes), list(places), list(pushes))
        self.assertIs(is_spread(notes, places, pushes), wanted, (notes, places, pushes))
        self.assertEqual((notes, places, pushes), handed_in)

    def test_no_notes(self):
        self.assert_told(True, [], [], [])
        self.assert_told(False, [], [1], [])
        self.assert_told(False, [], [], [0])
        self.assert_told(False, [], [0], [0])

    def test_one_note(self):
        self.assert_told(True, [GOOD], [4], [])
        for place in (-1, 0, 1, 2, 3, 5, 8, 9):
            self.assert_told(False, [GOOD], [place], [])
        self.assert_told(False, [GOOD], [], [])
        self.assert_told(False, [GOOD], [4, 4], [])
        self.assert_told(False, [GOOD], [4], [0])

    def test_the_window(self):
        self.assert_told(True, [(2, 5, 9, 1)], [5], [])
        self.assert_told(False, [(2, 5, 9, 1)], [4], [])
        self.assert_told(True, [(2, 1, 9, 9)], [8], [])
        self.assert_told(False, [(2, 1, 9, 9)], [9], [])
        self.assert_told(False, [(2, 1, 9, 9)], [7], [])

    def test_a_place_or_a_push_more_or_fewer(self):
        notes, places, pushes = [(2, 1, 9, 4), (2, 1, 9, 4)], [3, 5], [1]
        self.assert_told(True, notes, places, pushes)
        self.assert_told(False, notes, places[:1], pushes)
        self.assert_told(False, notes, places + [7], pushes)
        self.assert_told(False, notes, places, [])
        self.assert_told(False, notes, places, pushes + [0])
        self.assert_told(False, notes, [], [])

    def test_several_right_ones(self):
        notes = [(2, 1, 9, 4), (2, 1, 9, 4)]
        for places in ([4, 6], [3, 5], [2, 4]):
            self.assert_told(True, notes, places, [1])
            for push in (-1, 0, 2, 3):
                self.assert_told(False, notes, places, [push])
        self.assert_told(False, notes, [5, 7], [1])

    def test_over_the_note_ahead(self):
        notes = [(2, 1, 9, 4), (2, 1, 9, 5)]
        self.assert_told(False, notes, [4, 5], [0])
        self.assert_told(False, notes, [4, 4], [1])
        self.assert_told(False, notes, [5, 4], [0])
        self.assert_told(True, notes, [4, 6], [1])

    def test_a_push_below_0(self):
        # Both notes touch and stand where they wish; a push of -1 would keep to every rise.
        notes = [(2, 1, 9, 4), (2, 1, 9, 6)]
        self.assert_told(True, notes, [4, 6], [0])
        self.assert_told(True, notes, [4, 6], [1])
        self.assert_told(False, notes, [4, 6], [-1])
        self.assert_told(False, notes, [4, 6], [2])

    def test_a_push_between_notes_that_do_not_touch(self):
        notes = [(2, 1, 9, 4), (2, 1, 9, 7)]
        self.assert_told(True, notes, [4, 7], [0])
        self.assert_told(False, notes, [4, 7], [1])

    def test_each_of_the_four_bounds_alone(self):
        for notes, places, pushes, fault in [
            ([(2, 1, 9, 4), (2, 1, 7, 6)], [4, 6], [2], "more than 1"),
            ([(2, 1, 9, 4), (2, 7, 9, 1)], [5, 7], [0], "more than -1"),
            ([(2, 4, 9, 4), (2, 1, 9, 6)], [4, 6], [2], "less than -1"),
            ([(2, 1, 9, 4)], [3], [], "less than 1"),
        ]:
            self.assertEqual(faults_of(notes, places, pushes), [fault])
            self.assert_told(False, notes, places, pushes)

    def test_bounds_that_are_not_asked(self):
        # At its low a note may rise by more than 1, at its high by less than -1.
        self.assert_told(True, [(2, 4, 5, 4), (2, 6, 7, 6)], [4, 6], [9])
        self.assert_told(True, [(2, 4, 9, 4), (2, 1, 7, 6)], [4, 6], [9])
        self.assert_told(True, [(2, 5, 9, 1)], [5], [])
        self.assert_told(True, [(2, 1, 5, 9)], [4], [])
        self.assert_told(False, [(2, 4, 9, 4), (2, 1, 8, 6)], [4, 6], [9])
        self.assert_told(False, [(2, 3, 9, 4), (2, 1, 7, 6)], [4, 6], [9])

    def test_every_place_and_push_of_small_cases(self):
        right = 0
        for notes in chance_notes("tested", 150, 2, 2):
            for places in itertools.product(range(-3, 7), repeat=len(notes)):
                for pushes in itertools.product(range(-1, 4), repeat=max(0, len(notes) - 1)):
                    wanted = plainly_right(notes, list(places), list(pushes))
                    self.assert_told(wanted, notes, list(places), list(pushes))
                    right += wanted
        self.assertGreater(right, 50)

    def test_every_change_of_one_number(self):
        for notes in chance_notes("changed", 300):
            if not any(True for places in all_places(notes)):
                continue
            places, pushes = spread(notes)
            for numbers in (places, pushes):
                for number in range(len(numbers)):
                    for step in (-2, -1, 1, 2):
                        numbers[number] += step
                        self.assert_told(plainly_right(notes, places, pushes), notes, places, pushes)
                        numbers[number] -= step

    def test_what_is_right_has_the_least_stray(self):
        chance = random.Random("right")
        for notes in chance_notes("right", 300, 3, 3):
            strays = [stray_of(notes, places) for places in all_places(notes)]
            for places in all_places(notes):
                for turn in range(5):
                    pushes = [chance.randint(0, 2) for push in notes[1:]]
                    if is_spread(notes, places, pushes):
                        self.assertEqual(stray_of(notes, places), min(strays))

    def test_any_places_of_the_least_stray_have_pushes(self):
        # The pushes that are told show every choice of least places to be right, as far as they touch alike.
        for notes in chance_notes("any", 300, 3, 3):
            found = list(all_places(notes))
            if found:
                least = min(stray_of(notes, places) for places in found)
                pushes = spread(notes)[1]
                for places in found:
                    if stray_of(notes, places) == least:
                        self.assert_told(True, notes, places, pushes)


if __name__ == "__main__":
    unittest.main()
