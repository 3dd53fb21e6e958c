"""[6], [7], [30], [31], [32]: pictures that are read from lines."""

import unittest

from rimnotes.errors import (
    BadLine, NoCell, NoName, NoRow, NoSides, NoSize, NoWindow, OldPoint, OldSeat, RimError, SameColumn, SameRow,
    TooMany)
from rimnotes.pictures import Picture
from rimnotes.reading import picture_of
from things import THINGS, caught, rim_seats, state

FRAME = "frame 9 7"


class ReadingCase(unittest.TestCase):
    def read(self, *lines):
        handed_in = list(lines)
        picture = picture_of(handed_in)
        self.assertIs(type(picture), Picture)
        self.assertEqual(handed_in, list(lines))
        return picture

    def assert_bad(self, number, *lines):
        self.assert_refused(BadLine, {"line": number}, *lines)

    def assert_refused(self, error, fields, *lines):
        handed_in = list(lines)
        refusal = caught(RimError, picture_of, handed_in)
        self.assertIs(type(refusal), error, lines)
        self.assertEqual(vars(refusal), fields, lines)
        self.assertEqual([type(value) for value in vars(refusal).values()], [type(value) for value in fields.values()])
        self.assertEqual(len(handed_in), len(lines))
        for line, before in zip(handed_in, lines):
            self.assertIs(line, before)


class LinesTest(ReadingCase):
    def test_every_frame(self):
        for width in range(1, 31):
            for height in range(1, 17):
                self.assertEqual(state(self.read(f"frame {width} {height}")), (width, height, [], []))

    def test_forms_of_a_points_line(self):
        picture = self.read(
            FRAME, "point c 3 2", "point a 8 6 left", "point b 5 4 right 3 3", "point d 9 7 both",
            "point e 1 1 both 2 7")
        self.assertEqual(picture.points(), [
            ("c", 3, 2, "both", 1, 7), ("a", 8, 6, "left", 1, 7), ("b", 5, 4, "right", 3, 3),
            ("d", 9, 7, "both", 1, 7), ("e", 1, 1, "both", 2, 7)])

    def test_numbers_of_two_figures(self):
        picture = self.read("frame 30 16", "point z 30 16 left 10 16", "left 10 16", "right 9-12", "point y 10 9")
        self.assertEqual(picture.points(), [("z", 30, 16, "left", 10, 16), ("y", 10, 9, "both", 1, 16)])
        self.assertEqual(picture.seats(), [
            ("left", 10), ("left", 16), ("right", 9), ("right", 10), ("right", 11), ("right", 12)])

    def test_rows(self):
        for words, rows in [
            ("1", [1]), ("7", [7]), ("3-5", [3, 4, 5]), ("4-4", [4]), ("1-7", [1, 2, 3, 4, 5, 6, 7]), ("6-7", [6, 7]),
            ("2 5", [2, 5]), ("5 2", [2, 5]), ("4-5 1-2 7", [1, 2, 4, 5, 7]), ("3 1 2", [1, 2, 3]),
            ("7-7 1-1", [1, 7]),
        ]:
            for side in ("left", "right"):
                self.assertEqual(self.read(FRAME, f"{side} {words}").seats(), [(side, row) for row in rows])

    def test_several_rim_lines_in_any_order_between_points(self):
        picture = self.read(
            FRAME, "right 3", "point b 1 1", "left 7", "right 1-2", "point a 2 2 left 1 2", "left 1", "left 3-4")
        self.assertEqual(state(picture), (9, 7, [("b", 1, 1, "both", 1, 7), ("a", 2, 2, "left", 1, 2)], [
            ("left", 1), ("left", 3), ("left", 4), ("left", 7), ("right", 1), ("right", 2), ("right", 3)]))

    def test_every_name_and_all_seats(self):
        for name in "abcdefghijklmnopqrstuvwxyz":
            self.assertEqual(self.read("frame 1 1", f"point {name} 1 1").points(), [(name, 1, 1, "both", 1, 1)])
        self.assertEqual(self.read("frame 1 16", "left 1-16", "right 1-16").seats(), rim_seats(16))

    def test_two_readings_have_nothing_in_common(self):
        lines = [FRAME, "left 1", "point a 1 1"]
        one, other = picture_of(lines), picture_of(lines)
        one.take("a")
        one.shut_seat("left", 1)
        lines.append("left 2")
        self.assertEqual(state(other), (9, 7, [("a", 1, 1, "both", 1, 7)], [("left", 1)]))


class BadFormTest(ReadingCase):
    def test_what_is_no_list_and_the_list_without_lines(self):
        for thing in THINGS + [FRAME, (FRAME,), {0: FRAME}, {FRAME: 1}, Picture(2, 2)]:
            if not (isinstance(thing, list) and thing):
                refusal = caught(RimError, picture_of, thing)
                self.assertIs(type(refusal), BadLine)
                self.assertEqual((refusal.line, type(refusal.line)), (0, int))

    def test_a_line_that_is_no_text(self):
        for thing in THINGS + [("frame", 9, 7), ["frame 9 7"], {"frame": 1}]:
            self.assert_bad(0, thing)
            self.assert_bad(0, thing, FRAME)
            if not isinstance(thing, str):
                self.assert_bad(1, FRAME, thing)
                self.assert_bad(2, FRAME, "left 1", thing, thing)

    def test_a_first_line_that_is_no_frame_line(self):
        for line in [
            "", "left 1", "right 1-2", "point a 1 1", "frame", "frame 9", "frame 9 7 1", "Frame 9 7", "frames 9 7",
            "frame 9 7 ", " frame 9 7", "frame  9 7", "frame 9  7", "frame\t9 7", "frame 9\t7", "frame 9 7\n",
            "\nframe 9 7", "frame 09 7", "frame 9 07", "frame +9 7", "frame 9 +7", "frame -9 7", "frame 9 -1",
            "frame 100 7", "frame 9 100", "frame x 7", "frame 9 x", "frame 9-9 7", "frame 00 7", "9 7", "9 7 frame",
            "frame 9.0 7", "frame 1_0 7", "frame 0x1 7", "take a", "kept",
        ]:
            self.assert_bad(0, line)
            self.assert_bad(0, line, FRAME)

    def test_a_later_frame_line(self):
        self.assert_bad(1, FRAME, FRAME)
        self.assert_bad(1, FRAME, "frame 0 0")
        self.assert_bad(3, FRAME, "left 1", "point a 1 1", "frame 5 5", "left 1")

    def test_words_of_other_sorts(self):
        for line in [
            "", " ", "  ", "left", "right", "point", "Left 1", "lefts 1", "up 1", "both 1", "shut left 1", "take a",
            "move a 1 1", "kept", "total", "lines", "point a", "point a 1", "pointa 1 1", "Point a 1 1", "points a 1 1",
            "1", "-", "frame", "left1", "left:1",
        ]:
            self.assert_bad(1, FRAME, line)
            self.assert_bad(2, FRAME, "left 1", line, "left 1")

    def test_blanks_tabs_and_line_ends(self):
        for good in ("left 1 2", "right 1-2", "point a 1 1", "point a 1 1 left", "point a 1 1 left 1 2"):
            self.read(FRAME, good)
            for bad in (" " + good, good + " ", "\t" + good, "\n" + good, good.replace(" ", "  "),
                        good.replace(" ", "  ", 1), good.replace(" ", "\t"), good.replace(" ", "\t", 1),
                        good.replace(" ", "\n"), good.replace(" ", "")):
                self.assert_bad(1, FRAME, bad)
        for good in ("left 1 2", "right 1-2", "point a 1 1", "point a 1 1 left 1 2"):
            self.assert_bad(1, FRAME, good + "\n")
            self.assert_bad(1, FRAME, good + "\t")

    def test_words_that_are_no_numbers(self):
        for word in [
            "07", "+7", "100", "-1", "00", "01", "007", "x", "1x", "x1", "1.", ".1", "1.0", "1,", "1e0", "_1", "1_",
            "7\t", "7\n", "a", "-", "--", "1-", "-7", "1/", "/1", "1:", ":1", "12345678901234567890",
        ]:
            self.assert_bad(1, FRAME, f"left {word}")
            self.assert_bad(1, FRAME, f"right 2 {word}")
            self.assert_bad(1, FRAME, f"point a {word} 1")
            self.assert_bad(1, FRAME, f"point a 1 {word}")
            self.assert_bad(1, FRAME, f"point a 1 {word} left")
            self.assert_bad(1, FRAME, f"point a 1 1 left {word} 7")
            self.assert_bad(1, FRAME, f"point a 1 1 left 1 {word}")

    def test_words_that_are_no_rows(self):
        for word in [
            "-", "3-", "-3", "1-2-3", "1--2", "--", "5-3", "2-1", "7-1", "10-9", "3-x", "x-3", "03-5", "3-05", "3-100",
            "3_5", "3:5", "3,5", "3..5", "3-5-", "-3-5", "+3-5", "3-+5",
        ]:
            for line in (f"left {word}", f"right {word}", f"left 1 {word}", f"left {word} 1"):
                self.assert_bad(1, FRAME, line)
        for word in ["3 -5", "3- 5", "3 - 5"]:
            self.assert_bad(1, FRAME, f"left {word}")

    def test_numbers_of_words_in_a_points_line(self):
        for line in [
            "point a 1 1 left 1", "point a 1 1 left 1 7 1", "point a 1 1 left 1 7 x", "point a 1 1 left right",
            "point 1 1", "point a b 1 1", "point a 1-2 1", "point a 1 1 left 1-7", "point a 1 1 1 7",
        ]:
            self.assert_bad(1, FRAME, line)


class OrderTest(ReadingCase):
    def test_size(self):
        for size in ("0 7", "9 0", "31 7", "9 17", "0 0", "99 99", "16 30"):
            self.assert_refused(NoSize, {}, "frame " + size)
            self.assert_refused(NoSize, {}, "frame " + size, "no line", FRAME)

    def test_refusals_of_seats(self):
        self.assert_refused(NoRow, {"row": 0}, FRAME, "left 0")
        self.assert_refused(NoRow, {"row": 8}, FRAME, "right 8")
        self.assert_refused(NoRow, {"row": 0}, FRAME, "left 0-3")
        self.assert_refused(NoRow, {"row": 8}, FRAME, "left 5-99")
        self.assert_refused(NoRow, {"row": 99}, FRAME, "left 99 98 0")
        self.assert_refused(OldSeat, {"side": "left", "row": 3}, FRAME, "left 3 3")
        self.assert_refused(OldSeat, {"side": "left", "row": 4}, FRAME, "left 4-5 1-9")
        self.assert_refused(OldSeat, {"side": "right", "row": 2}, FRAME, "right 2", "left 2", "right 1-9")
        self.assert_refused(NoRow, {"row": 8}, FRAME, "left 8 3 3")
        self.assert_refused(OldSeat, {"side": "left", "row": 3}, FRAME, "left 3 3 8")

    def test_refusals_of_points(self):
        for name in ("A", "ab", "1", "-", "left", "a1", "frame", "~"):
            self.assert_refused(NoName, {"name": name}, FRAME, f"point {name} 1 1")
            self.assert_refused(NoName, {"name": name}, FRAME, f"point {name} 0 0 up 5 4")
        self.assert_refused(NoCell, {"x": 0, "y": 1}, FRAME, "point a 0 1")
        self.assert_refused(NoCell, {"x": 1, "y": 8}, FRAME, "point a 1 8 up 5 4")
        self.assert_refused(NoCell, {"x": 99, "y": 0}, FRAME, "point a 99 0")
        for sides in ("up", "Both", "1", "-", "leftright"):
            self.assert_refused(NoSides, {"sides": sides}, FRAME, f"point a 1 1 {sides}")
            self.assert_refused(NoSides, {"sides": sides}, FRAME, f"point a 1 1 {sides} 5 4")
        self.assert_refused(NoWindow, {"low": 5, "high": 4}, FRAME, "point a 1 1 left 5 4")
        self.assert_refused(NoWindow, {"low": 0, "high": 4}, FRAME, "point a 1 1 left 0 4")
        self.assert_refused(NoWindow, {"low": 1, "high": 8}, FRAME, "point a 1 1 both 1 8")
        self.assert_refused(OldPoint, {"name": "a"}, FRAME, "point a 1 1", "point a 2 2")
        self.assert_refused(SameColumn, {"name": "a"}, FRAME, "point a 1 1", "point b 2 2", "point c 1 2")
        self.assert_refused(SameRow, {"name": "b"}, FRAME, "point a 1 1", "point b 2 2", "point c 3 2")
        points = [f"point {name} {number} {number}" for number, name in enumerate("abcdefghijkl", 1)]
        self.assertEqual(len(self.read("frame 30 16", *points).points()), 12)
        self.assert_refused(TooMany, {}, "frame 30 16", *points, "point m 13 13")

    def test_the_first_line_that_is_refused_goes(self):
        self.assert_refused(NoRow, {"row": 9}, FRAME, "left 9", "no line", "point A 1 1")
        self.assert_bad(1, FRAME, "no line", "left 9", "point A 1 1")
        self.assert_refused(NoName, {"name": "A"}, FRAME, "point A 1 1", "left 9", "no line")
        self.assert_refused(NoName, {"name": "A"}, FRAME, "point A 1 1", None)
        self.assert_bad(1, FRAME, None, "point A 1 1")
        self.assert_bad(4, FRAME, "left 1", "point a 1 1", "left 2", "left 3-2", "left 1")
        self.assert_refused(OldSeat, {"side": "left", "row": 1}, FRAME, "left 1", "point a 1 1", "left 1", "left 3-2")

    def test_a_lines_form_goes_ahead_of_what_it_tells(self):
        self.assert_bad(1, FRAME, "left 1 x")
        self.assert_bad(1, FRAME, "left 17 x")
        self.assert_bad(1, FRAME, "left 0 3-2")
        self.assert_bad(2, FRAME, "left 1", "left 1 1 x")
        self.assert_bad(1, FRAME, "point A 1 x")
        self.assert_bad(1, FRAME, "point a 99 1 up 5")
        self.assert_bad(1, FRAME, "point a 99 1 up 5 04")
        self.assert_bad(0, "frame 99 x")
        self.assert_bad(0, "frame 0 0 0")

    def test_the_same_lines_again(self):
        lines = [FRAME, "left 1 x"]
        for turn in range(2):
            self.assertEqual(caught(BadLine, picture_of, lines).line, 1)
        lines[1] = "left 1"
        self.assertEqual(picture_of(lines).seats(), [("left", 1)])


if __name__ == "__main__":
    unittest.main()
