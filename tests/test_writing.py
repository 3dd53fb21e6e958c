"""[6], [33], [34]: pictures that are written as lines, and read again."""

import itertools
import unittest

from rimnotes.pictures import Picture
from rimnotes.reading import picture_of
from rimnotes.writing import lines_of
from things import chance_pictures, full_picture, ordinary_picture, picture_of_points, rim_seats, state


class WritingTest(unittest.TestCase):
    def test_the_ordinary_picture(self):
        self.assertEqual(lines_of(ordinary_picture()), [
            "frame 9 7", "left 2-3 6", "right 1 3 7", "point c 3 2", "point a 8 6 left 2 5", "point b 5 4 right 3 3"])

    def test_frames(self):
        for width in range(1, 31):
            for height in range(1, 17):
                self.assertEqual(lines_of(Picture(width, height)), [f"frame {width} {height}"])

    def test_rows(self):
        for rows, words in [
            ([1], "1"), ([16], "16"), ([1, 2], "1-2"), ([15, 16], "15-16"), ([1, 3], "1 3"), ([1, 2, 3], "1-3"),
            ([1, 3, 4], "1 3-4"), ([2, 3, 5, 7, 8, 9, 16], "2-3 5 7-9 16"), ([9, 10, 12], "9-10 12"),
            ([1, 3, 5, 7, 9, 11, 13, 15], "1 3 5 7 9 11 13 15"), (list(range(1, 17)), "1-16"),
        ]:
            for side, other in [("left", "right"), ("right", "left")]:
                picture = picture_of_points(4, 16, [], [(side, row) for row in reversed(rows)])
                self.assertEqual(lines_of(picture), ["frame 4 16", f"{side} {words}"])
                picture.open_seat(other, 4)
                both = sorted([f"{side} {words}", f"{other} 4"])
                self.assertEqual(lines_of(picture), ["frame 4 16"] + both)

    def test_both_rims_whole(self):
        picture = picture_of_points(4, 5, [], rim_seats(5))
        self.assertEqual(lines_of(picture), ["frame 4 5", "left 1-5", "right 1-5"])

    def test_forms_of_points(self):
        for point, line in [
            (("a", 1, 2), "point a 1 2"),
            (("a", 1, 2, "both", 1, 6), "point a 1 2"),
            (("b", 3, 4, "left"), "point b 3 4 left"),
            (("b", 3, 4, "right", 1, 6), "point b 3 4 right"),
            (("c", 10, 6, "both", 2, 6), "point c 10 6 both 2 6"),
            (("c", 10, 6, "both", 1, 5), "point c 10 6 both 1 5"),
            (("d", 10, 6, "left", 1, 5), "point d 10 6 left 1 5"),
            (("d", 10, 6, "right", 3, 3), "point d 10 6 right 3 3"),
        ]:
            self.assertEqual(lines_of(picture_of_points(10, 6, [point], [])), ["frame 10 6", line])
        self.assertEqual(lines_of(picture_of_points(1, 1, [("z", 1, 1, "left", 1, 1)], [])), [
            "frame 1 1", "point z 1 1 left"])

    def test_points_in_the_order_of_coming(self):
        self.assertEqual(lines_of(full_picture())[1:], [
            f"point {name} {number} {number}" for number, name in enumerate("abcdefghijkl", 1)])
        picture = ordinary_picture()
        picture.take("c")
        picture.put("c", 1, 1)
        picture.move("a", 2, 2)
        self.assertEqual(lines_of(picture)[3:], ["point a 2 2 left 2 5", "point b 5 4 right 3 3", "point c 1 1"])

    def test_kinds_and_the_askers_own(self):
        picture = ordinary_picture()
        before = state(picture)
        lines = lines_of(picture)
        self.assertEqual([type(line) for line in lines], [str] * len(lines))
        told = list(lines)
        lines.clear()
        self.assertEqual(lines_of(picture), told)
        self.assertEqual(state(picture), before)


class AgainTest(unittest.TestCase):
    def assert_again(self, picture):
        before = state(picture)
        lines = lines_of(picture)
        again = picture_of(lines)
        self.assertEqual(state(again), before)
        self.assertEqual(lines_of(again), lines)
        self.assertEqual(state(picture), before)

    def test_some_pictures(self):
        for picture in (ordinary_picture(), full_picture(), Picture(1, 1), Picture(30, 16)):
            self.assert_again(picture)
            self.assert_again(picture.mirrored())
            self.assert_again(picture.turned())

    def test_every_set_of_seats(self):
        for count in range(9):
            for seats in itertools.combinations(rim_seats(4), count):
                self.assert_again(picture_of_points(3, 4, [], seats))

    def test_every_window_with_every_sides(self):
        for sides in ("left", "right", "both"):
            for low in range(1, 6):
                for high in range(low, 6):
                    self.assert_again(picture_of_points(2, 5, [("p", 1, 3, sides, low, high)], [("left", 2)]))

    def test_chance_pictures(self):
        for picture in chance_pictures("again", 200):
            self.assert_again(picture)

    def test_lines_that_tell_the_same_come_out_alike(self):
        told = ["frame 9 7", "left 1-3 5", "right 2", "point a 1 1", "point b 2 2 left"]
        for lines in [
            told,
            ["frame 9 7", "point a 1 1 both", "right 2-2", "left 5 3 1-2", "point b 2 2 left 1 7"],
            ["frame 9 7", "left 2", "left 3", "point a 1 1 both 1 7", "left 1", "point b 2 2 left", "left 5",
             "right 2"],
        ]:
            self.assertEqual(lines_of(picture_of(lines)), told)


if __name__ == "__main__":
    unittest.main()
