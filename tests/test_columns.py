"""[6], [7], [74]: the columns of notes beside both rims."""

import itertools
import random
import unittest

from rimnotes.answers import answer
from rimnotes.columns import column_places
from rimnotes.errors import RimError, TooTall
from rimnotes.pictures import Picture
from things import all_givings, caught, chance_pictures, full_picture, names_of, picture_of_points, rim_seats, state


def standing(heights, low, high):
    """All places of notes of these heights, one behind the other, from low to high."""
    if not heights:
        yield []
        return
    for place in range(low, high - sum(heights) + 2):
        for rest in standing(heights[1:], place + heights[0], high):
            yield [place] + rest


def rim_of(pairs, side):
    """The pairs of a rim, the least row first."""
    return sorted((pair for pair in pairs if pair[1] == side), key=lambda pair: pair[2])


def stray_of(rim, places):
    return sum(abs(place - pair[2]) for pair, place in zip(rim, places))


class ColumnsCase(unittest.TestCase):
    def told(self, picture, pairs, heights):
        """What is told or refused, with a look at what was handed in."""
        handed_in, before = (list(pairs), dict(heights)), state(picture)
        try:
            return column_places(picture, pairs, heights)
        except RimError as refusal:
            return refusal
        finally:
            self.assertEqual(((pairs, heights), state(picture)), (handed_in, before))

    def assert_columns(self, picture, pairs, heights):
        told = self.told(picture, pairs, heights)
        high = {side: sum(heights.get(pair[0], 1) for pair in rim_of(pairs, side)) for side in ("left", "right")}
        tall = [side for side in ("left", "right") if high[side] > picture.height]
        if tall:
            self.assertIs(type(told), TooTall)
            self.assertEqual(vars(told), {"side": tall[0]})
            return tall[0]
        self.assertIs(type(told), list)
        self.assertEqual([type(note) for note in told], [tuple] * len(pairs))
        self.assertEqual([(name, side, height) for name, side, row, height in told],
                         [(name, side, heights.get(name, 1)) for name, side, row in pairs])
        for side in ("left", "right"):
            self.assert_rim(picture, rim_of(pairs, side), {note[0]: note for note in told})
        self.assertEqual(column_places(picture.copied(), list(pairs), dict(heights)), told)
        return None

    def assert_rim(self, picture, rim, note_of):
        free_from = 1
        for pair in rim:
            name, side, row, height = note_of[pair[0]]
            self.assertIs(type(row), int)
            self.assertGreaterEqual(row, free_from)
            free_from = row + height
        self.assertLessEqual(free_from, picture.height + 1)
        heights = [note_of[pair[0]][3] for pair in rim]
        wanted = min(stray_of(rim, places) for places in standing(heights, 1, picture.height))
        self.assertEqual(stray_of(rim, [note_of[pair[0]][2] for pair in rim]), wanted)


class ColumnsTest(ColumnsCase):
    def setUp(self):
        self.picture = picture_of_points(
            6, 8, [("a", 1, 2), ("b", 2, 4), ("c", 3, 5), ("d", 4, 7), ("e", 6, 1)], rim_seats(8))
        self.pairs = [("c", "left", 4), ("a", "left", 2), ("d", "right", 8), ("b", "left", 3), ("e", "right", 1)]

    def test_no_pairs(self):
        for picture in (Picture(1, 1), self.picture, full_picture()):
            self.assertEqual(column_places(picture, [], {}), [])

    def test_heights_of_1(self):
        wanted = [(name, side, row, 1) for name, side, row in self.pairs]
        self.assertEqual(column_places(self.picture, self.pairs, {}), wanted)
        for count in range(6):
            for names in itertools.combinations("abcde", count):
                self.assertEqual(column_places(self.picture, self.pairs, dict.fromkeys(names, 1)), wanted)

    def test_by_hand(self):
        self.assertEqual(column_places(self.picture, self.pairs, {"d": 3, "e": 2}), [
            ("c", "left", 4, 1), ("a", "left", 2, 1), ("d", "right", 6, 3), ("b", "left", 3, 1), ("e", "right", 1, 2)])
        self.assertEqual(column_places(self.picture, self.pairs, {"c": 2, "b": 3, "a": 3}), [
            ("c", "left", 7, 2), ("a", "left", 1, 3), ("d", "right", 8, 1), ("b", "left", 4, 3), ("e", "right", 1, 1)])

    def test_one_rim_alone(self):
        self.assertEqual(column_places(self.picture, [("a", "right", 7)], {"a": 5}), [("a", "right", 4, 5)])
        self.assertEqual(column_places(self.picture, [("a", "left", 7)], {"a": 8}), [("a", "left", 1, 8)])
        self.assert_columns(self.picture, [("a", "left", 7), ("b", "left", 6), ("c", "left", 8)], {"b": 4})

    def test_notes_that_just_fit_and_one_row_more(self):
        for heights, tall in [
            ({"a": 2, "b": 3, "c": 3}, None), ({"a": 2, "b": 4, "c": 3}, "left"), ({"a": 6}, None), ({"a": 7}, "left"),
            ({"d": 7}, None), ({"d": 4, "e": 4}, None), ({"d": 8}, "right"), ({"d": 5, "e": 4}, "right"),
            ({"a": 7, "d": 8}, "left"), ({"a": 6, "d": 8}, "right"), ({"a": 6, "d": 7}, None),
        ]:
            for order in (self.pairs, self.pairs[::-1], sorted(self.pairs)):
                self.assertEqual(self.assert_columns(self.picture, list(order), heights), tall)

    def test_a_frame_of_one_row(self):
        picture = picture_of_points(2, 1, [("a", 1, 1)], rim_seats(1))
        self.assertEqual(column_places(picture, [("a", "left", 1)], {}), [("a", "left", 1, 1)])
        self.assertEqual(self.assert_columns(picture, [("a", "right", 1)], {"a": 2}), "right")

    def test_the_greatest_heights(self):
        picture = full_picture()
        for seat in rim_seats(16):
            picture.open_seat(*seat)
        self.assert_columns(picture, [("a", "left", 1), ("b", "left", 16), ("c", "right", 9)], {"a": 9, "b": 7, "c": 9})
        self.assert_columns(picture, [("a", "left", 1), ("b", "left", 16), ("c", "right", 9)], {"a": 9, "b": 8, "c": 9})
        # Heights somewhat beyond 9 are refused for no other reason than that they are too tall.
        self.assertEqual(column_places(picture, [("a", "left", 9)], {"a": 10}), [("a", "left", 7, 10)])
        self.assertEqual(self.assert_columns(picture, [("a", "left", 9)], {"a": 16}), None)
        self.assertEqual(self.assert_columns(picture, [("a", "left", 9)], {"a": 17}), "left")

    def test_the_order_of_the_pairs_does_not_matter(self):
        heights = {"a": 2, "b": 2, "c": 3, "d": 2}
        wanted = sorted(column_places(self.picture, self.pairs, heights))
        for order in itertools.permutations(self.pairs):
            told = column_places(self.picture, list(order), heights)
            self.assertEqual([note[0] for note in told], [pair[0] for pair in order])
            self.assertEqual(sorted(told), wanted)

    def test_beside_a_plain_trying_of_all_places(self):
        chance = random.Random("columns")
        sorts = {}
        for picture in chance_pictures("columns", 150, 4, 6):
            givings = list(all_givings(picture, names_of(picture))) + [answer(picture)[0]]
            for turn in range(6):
                pairs = chance.choice(givings)[:]
                chance.shuffle(pairs)
                heights = {pair[0]: chance.randint(1, 3) for pair in pairs if chance.randint(0, 2)}
                sorts[self.assert_columns(picture, pairs, heights)] = True
        self.assertEqual(set(sorts), {None, "left", "right"})

    def test_twelve_notes_beside_one_rim(self):
        picture = full_picture()
        for row in range(5, 17):
            picture.open_seat("right", row)
        pairs = [(name, "right", row) for name, row in zip("lkjihgfedcba", range(5, 17))]
        self.assertEqual(self.assert_columns(picture, pairs, {}), None)
        self.assertEqual(self.assert_columns(picture, pairs, {"a": 3, "g": 3}), None)
        self.assertEqual(self.assert_columns(picture, pairs, {"a": 3, "g": 4}), "right")

    def test_a_height_of_1_told_or_left_out(self):
        chance = random.Random("told or left out")
        for picture in chance_pictures("told or left out", 100, 5, 7):
            pairs = answer(picture)[0]
            heights = {pair[0]: chance.randint(1, 2) for pair in pairs}
            fewer = {name: height for name, height in heights.items() if height > 1}
            one, other = [self.told(picture, pairs, each) for each in (heights, fewer)]
            if isinstance(one, TooTall):
                one, other = one.side, other.side
            self.assertEqual(one, other)

    def test_the_askers_own(self):
        heights = {"a": 2}
        told = column_places(self.picture, self.pairs, heights)
        wanted = list(told)
        told.clear()
        self.assertEqual(column_places(self.picture, self.pairs, heights), wanted)
        told = column_places(self.picture, self.pairs, heights)
        heights["a"] = 9
        self.pairs.clear()
        self.assertEqual(told, wanted)

    def test_too_tall_alone(self):
        refusal = caught(TooTall, column_places, self.picture, self.pairs, {"a": 7, "d": 9})
        self.assertEqual(refusal.side, "left")


if __name__ == "__main__":
    unittest.main()
