"""[2], [3], [6], [7], [12], [13]: how a picture is made, and how points are put into it."""

import itertools
import string
import unittest

from rimnotes.errors import (
    NoCell, NoName, NoSides, NoSize, NoWindow, OldPoint, RimError, SameColumn, SameRow, TooMany)
from rimnotes.pictures import Picture
from things import MANY, THINGS, EqualToAll, RefusalCase, caught, full_picture, ordinary_picture, state


class SizeTest(unittest.TestCase):
    def test_every_size(self):
        for width in range(1, 31):
            for height in range(1, 17):
                picture = Picture(width, height)
                self.assertEqual((picture.width, picture.height), (width, height))
                self.assertEqual(picture.points(), [])
                self.assertEqual(picture.seats(), [])

    def assert_no_size(self, width, height):
        with self.assertRaises(NoSize) as refusal:
            Picture(width, height)
        self.assertIs(type(refusal.exception), NoSize)

    def test_sizes_beyond(self):
        for width in (0, -1, 31, 32, 99, -30, MANY, -MANY, 10 ** 5000):
            for height in (1, 7, 16):
                self.assert_no_size(width, height)
        for height in (0, -1, 17, 18, 30, 99, -16, MANY, -MANY, 10 ** 5000):
            for width in (1, 7, 30):
                self.assert_no_size(width, height)
        self.assert_no_size(0, 0)
        self.assert_no_size(31, 17)
        self.assert_no_size(16, 30)

    def test_things_of_every_kind(self):
        for thing in THINGS + ["5", "x", (5, 5)]:
            if not (type(thing) is int and 1 <= thing <= 30):
                self.assert_no_size(thing, 5)
                self.assert_no_size(thing, thing)
            self.assert_no_size(5, thing)

    def test_two_pictures_have_nothing_in_common(self):
        one, other = Picture(5, 4), Picture(5, 4)
        one.put("a", 1, 1)
        one.open_seat("left", 2)
        self.assertEqual(state(other), (5, 4, [], []))
        other.put("b", 2, 2)
        self.assertEqual(state(one), (5, 4, [("a", 1, 1, "both", 1, 4)], [("left", 2)]))


class PutTest(unittest.TestCase):
    def test_last_arguments_left_out(self):
        picture = Picture(9, 7)
        self.assertIsNone(picture.put("a", 1, 1))
        self.assertIsNone(picture.put("b", 2, 2, "left"))
        self.assertIsNone(picture.put("c", 3, 3, "right", 4))
        self.assertIsNone(picture.put("d", 4, 4, "both", 4, 5))
        self.assertIsNone(picture.put("e", 5, 5, "both", 1, None))
        self.assertIsNone(picture.put("f", 6, 6, "left", 7, None))
        self.assertEqual(picture.points(), [
            ("a", 1, 1, "both", 1, 7), ("b", 2, 2, "left", 1, 7), ("c", 3, 3, "right", 4, 7),
            ("d", 4, 4, "both", 4, 5), ("e", 5, 5, "both", 1, 7), ("f", 6, 6, "left", 7, 7)])

    def test_every_name(self):
        for name in string.ascii_lowercase:
            picture = Picture(1, 1)
            picture.put(name, 1, 1)
            self.assertEqual(picture.points(), [(name, 1, 1, "both", 1, 1)])

    def test_every_cell_of_a_frame(self):
        for x in range(1, 10):
            for y in range(1, 8):
                picture = Picture(9, 7)
                picture.put("q", x, y)
                self.assertEqual(picture.place_of("q"), (x, y))

    def test_every_window(self):
        for low in range(-1, 10):
            for high in range(-1, 10):
                picture = Picture(3, 7)
                if 1 <= low <= high <= 7:
                    picture.put("a", 1, 1, "left", low, high)
                    self.assertEqual(picture.points(), [("a", 1, 1, "left", low, high)])
                else:
                    refusal = caught(RimError, picture.put, "a", 1, 1, "left", low, high)
                    self.assertIs(type(refusal), NoWindow)
                    self.assertEqual((refusal.low, refusal.high), (low, high))
                    self.assertEqual(picture.points(), [])

    def test_the_window_need_not_hold_the_points_row(self):
        picture = Picture(3, 7)
        picture.put("a", 1, 7, "both", 1, 2)
        self.assertEqual(picture.points(), [("a", 1, 7, "both", 1, 2)])

    def test_high_none_stands_as_the_height_in_the_refusal(self):
        for low in (0, 8, -3, MANY, None, "1", True, [1]):
            for last in ((low,), (low, None)):
                refusal = caught(RimError, Picture(9, 7).put, "a", 1, 1, "both", *last)
                self.assertIs(type(refusal), NoWindow)
                self.assertIs(refusal.low, low)
                self.assertEqual(refusal.high, 7)


class WrongThingsTest(RefusalCase):
    def test_names(self):
        for thing in THINGS + ["left", "both", 5]:
            self.assert_refused(NoName, {"name": thing}, Picture.put, thing, 1, 1)
            self.assert_refused(NoName, {"name": thing}, Picture.put, thing, thing, thing, thing, thing, thing)

    def test_columns_and_rows(self):
        for thing in THINGS + [10, 32, "d", "both"]:
            self.assert_refused(NoCell, {"x": thing, "y": 1}, Picture.put, "d", thing, 1)
            self.assert_refused(NoCell, {"x": thing, "y": thing}, Picture.put, "d", thing, thing, thing, thing, thing)
        for thing in THINGS + [8, 9, 17, "d", "both"]:
            self.assert_refused(NoCell, {"x": 1, "y": thing}, Picture.put, "d", 1, thing)

    def test_sides(self):
        for thing in THINGS + [1, 5, "LEFT", "Both", "right ", "left right", "leftright", "b", "none", ["both"]]:
            self.assert_refused(NoSides, {"sides": thing}, Picture.put, "d", 1, 1, thing)
            self.assert_refused(NoSides, {"sides": thing}, Picture.put, "d", 1, 1, thing, thing, thing)

    def test_windows(self):
        for thing in THINGS + [8, 9, "both"]:
            self.assert_refused(NoWindow, {"low": thing, "high": 7}, Picture.put, "d", 1, 1, "both", thing)
            self.assert_refused(NoWindow, {"low": thing, "high": 5}, Picture.put, "d", 1, 1, "both", thing, 5)
            if thing is not None:
                self.assert_refused(NoWindow, {"low": 2, "high": thing}, Picture.put, "d", 1, 1, "both", 2, thing)
                window = {"low": thing, "high": thing}
                self.assert_refused(NoWindow, window, Picture.put, "d", 1, 1, "both", thing, thing)
        self.assert_refused(NoWindow, {"low": 5, "high": 4}, Picture.put, "d", 1, 1, "both", 5, 4)

    def test_things_that_call_themselves_equal(self):
        for thing in [EqualToAll(like) for like in ("a", "d", "both", "right", 1, 7)]:
            self.assert_refused(NoName, {"name": thing}, Picture.put, thing, 1, 1)
            self.assert_refused(NoCell, {"x": 1, "y": thing}, Picture.put, "d", 1, thing)
            self.assert_refused(NoSides, {"sides": thing}, Picture.put, "d", 1, 1, thing)
            self.assert_refused(NoWindow, {"low": 1, "high": thing}, Picture.put, "d", 1, 1, "both", 1, thing)

    def test_what_is_handed_in_stays(self):
        for thing in ([1, [2]], {"a": [1]}):
            before = repr(thing)
            for place in range(6):
                handed_in = ["d", 1, 1, "both", 1, 7]
                handed_in[place] = thing
                self.assertIsInstance(caught(RimError, ordinary_picture().put, *handed_in), RimError)
                self.assertEqual(repr(thing), before)


class PutRefusedTest(unittest.TestCase):
    def test_old_point(self):
        for name in "abc":
            picture = ordinary_picture()
            before = state(picture)
            refusal = caught(RimError, picture.put, name, 1, 1)
            self.assertIs(type(refusal), OldPoint)
            self.assertEqual(refusal.name, name)
            self.assertEqual(state(picture), before)

    def test_same_column_and_same_row_tell_whose(self):
        for name, x, y in [("a", 8, 6), ("b", 5, 4), ("c", 3, 2)]:
            picture = ordinary_picture()
            before = state(picture)
            refusal = caught(RimError, picture.put, "d", x, 1)
            self.assertEqual((type(refusal), refusal.name), (SameColumn, name))
            refusal = caught(RimError, picture.put, "d", 1, y)
            self.assertEqual((type(refusal), refusal.name), (SameRow, name))
            self.assertEqual(state(picture), before)

    def test_a_column_goes_ahead_of_a_row_whoever_came_first(self):
        for x, y, name in [(3, 6, "c"), (3, 4, "c"), (8, 2, "a"), (8, 4, "a"), (5, 2, "b"), (5, 6, "b"), (5, 4, "b")]:
            refusal = caught(RimError, ordinary_picture().put, "d", x, y)
            self.assertEqual((type(refusal), refusal.name), (SameColumn, name))

    def test_a_thirteenth_point(self):
        picture = full_picture()
        before = state(picture)
        self.assertEqual(len(picture.points()), 12)
        refusal = caught(RimError, picture.put, "m", 20, 14)
        self.assertIs(type(refusal), TooMany)
        self.assertEqual(state(picture), before)
        picture.take("e")
        picture.put("m", 20, 14)
        self.assertEqual([point[0] for point in picture.points()], list("abcdfghijklm"))
        self.assertIs(type(caught(RimError, picture.put, "n", 21, 15)), TooMany)

    def test_what_was_refused_is_taken_when_it_is_good(self):
        picture = ordinary_picture()
        for handed_in in [("D", 1, 1), ("d", 0, 1), ("d", 1, 1, "up"), ("d", 1, 1, "left", 3, 2), ("a", 1, 1),
                          ("d", 3, 1), ("d", 1, 2)]:
            self.assertIsInstance(caught(RimError, picture.put, *handed_in), RimError)
        picture.put("d", 1, 1)
        self.assertEqual([point[0] for point in picture.points()], ["c", "a", "b", "d"])
        picture.take("c")
        picture.put("e", 3, 2)
        self.assertEqual(picture.points()[-1], ("e", 3, 2, "both", 1, 7))


class PutOrderTest(unittest.TestCase):
    """All sets of faults that can be due at once: the first in the order told is the refusal."""

    ORDER = [NoName, NoCell, NoSides, NoWindow, OldPoint, TooMany, SameColumn, SameRow]

    def handed_in(self, faults, bad_column):
        name = "A" if NoName in faults else "f" if OldPoint in faults else "z"
        x = 4 if SameColumn in faults else 20
        y = 9 if SameRow in faults else 15
        if NoCell in faults and bad_column:
            x = 31
        elif NoCell in faults:
            y = 17
        sides = "up" if NoSides in faults else "left"
        low, high = (5, 4) if NoWindow in faults else (4, 5)
        return [name, x, y, sides, low, high]

    def fields(self, error, name, x, y, sides, low, high):
        return {
            NoName: {"name": name}, NoCell: {"x": x, "y": y}, NoSides: {"sides": sides},
            NoWindow: {"low": low, "high": high}, OldPoint: {"name": name}, TooMany: {}, SameColumn: {"name": "d"},
            SameRow: {"name": "i"}}[error]

    def test_every_set_of_faults(self):
        for count in range(1, len(self.ORDER) + 1):
            for faults in itertools.combinations(self.ORDER, count):
                for bad_column in (True, False):
                    picture = full_picture()
                    if TooMany not in faults:
                        picture.take("l")
                    before = state(picture)
                    handed_in = self.handed_in(faults, bad_column)
                    refusal = caught(RimError, picture.put, *handed_in)
                    self.assertIs(type(refusal), faults[0], (faults, handed_in))
                    self.assertEqual(vars(refusal), self.fields(faults[0], *handed_in))
                    self.assertEqual(state(picture), before)


if __name__ == "__main__":
    unittest.main()
