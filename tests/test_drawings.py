"""[6], [80], [81], [85]: pictures drawn with pairs, mirrored and turned ones too."""

import random
import unittest

from rimnotes.answers import answer
from rimnotes.drawings import drawn
from rimnotes.pictures import Picture
from things import (
    chance_pairs, chance_pictures, full_picture, mirrored_pairs, picture_of_points, plain_drawing, rim_seats, state,
    turned_pairs)


class DrawnTest(unittest.TestCase):
    def assert_drawn(self, picture, pairs, wanted):
        handed_in, before = list(pairs), state(picture)
        told = drawn(picture, pairs)
        self.assertEqual(told, wanted)
        self.assertEqual([type(told)] + [type(text) for text in told], [list] + [str] * picture.height)
        self.assertEqual((pairs, state(picture)), (handed_in, before))
        for other in (pairs[::-1], sorted(pairs)):
            self.assertEqual(drawn(picture, other), wanted)

    def test_nothing(self):
        self.assert_drawn(Picture(1, 1), [], ["   "])
        self.assert_drawn(Picture(3, 2), [], ["     ", "     "])
        self.assert_drawn(Picture(30, 16), [], [" " * 32] * 16)

    def test_seats_and_points_without_pairs(self):
        picture = picture_of_points(4, 3, [("q", 3, 1), ("p", 1, 3)], [("left", 1), ("left", 3), ("right", 2)])
        self.assert_drawn(picture, [], [
            ".  q  ",
            "     .",
            ".p    "])

    def test_a_leader_of_each_form(self):
        picture = picture_of_points(5, 4, [("p", 3, 2)], rim_seats(4))
        for pair, wanted in [
            (("p", "left", 2), [".     .", "p--p  .", ".     .", ".     ."]),
            (("p", "right", 2), [".     .", ".  p--p", ".     .", ".     ."]),
            (("p", "left", 1), ["p--+  .", ".  p  .", ".     .", ".     ."]),
            (("p", "right", 4), [".     .", ".  p  .", ".  |  .", ".  +--p"]),
        ]:
            self.assert_drawn(picture, [pair], wanted)

    def test_beside_the_rims(self):
        picture = picture_of_points(2, 3, [("p", 1, 1), ("q", 2, 3)], rim_seats(3)[:2])
        self.assert_drawn(picture, [("p", "left", 1), ("q", "right", 1)], ["pp+q", ". | ", "  q "])
        self.assert_drawn(picture, [("p", "right", 2), ("q", "left", 2)], [".p  ", "q##p", "  q "])

    def test_seats_that_are_shut(self):
        picture = picture_of_points(3, 3, [("p", 2, 2, "left", 1, 1)], [("left", 1)])
        self.assert_drawn(picture, [("p", "right", 3)], [".    ", "  p  ", "  +-p"])
        self.assert_drawn(picture, [("p", "left", 1)], ["p-+  ", "  p  ", "     "])

    def test_leaders_over_points(self):
        # q's leader goes over p, which has no leader, and over r, which has one.
        picture = picture_of_points(5, 4, [("p", 2, 2), ("q", 4, 3), ("r", 1, 4)], [])
        self.assert_drawn(picture, [("q", "left", 2)], ["       ", "q-p-+  ", "    q  ", " r     "])
        self.assert_drawn(picture, [("q", "left", 4), ("r", "left", 3)], ["       ", "  p    ", "r+  q  ", "qr--+  "])

    def test_a_point_beside_a_corner(self):
        picture = picture_of_points(4, 3, [("p", 2, 1), ("q", 3, 3)], [])
        self.assert_drawn(picture, [("p", "right", 3)], ["  p   ", "  |   ", "  +q-p"])

    def test_where_two_and_three_go(self):
        picture = picture_of_points(6, 6, [("p", 2, 2), ("q", 4, 3), ("r", 1, 5)], rim_seats(6))
        self.assert_drawn(picture, [("p", "left", 3), ("q", "left", 2), ("r", "left", 1)], [
            "r+     .",
            "q#p-+  .",
            "p#+ q  .",
            ".|     .",
            ".r     .",
            ".      ."])
        # All three go through column 2 in row 4: one across to the left, one across to the right, one upward.
        picture = picture_of_points(5, 5, [("p", 1, 1), ("q", 2, 5), ("r", 5, 2)], [])
        self.assert_drawn(picture, [("r", "left", 4), ("p", "right", 4), ("q", "right", 3)], [
            " p     ",
            " |   r ",
            " |+--#q",
            "r#####p",
            "  q    "])

    def test_a_corner_and_a_straight_way_over_one_another(self):
        picture = picture_of_points(4, 3, [("p", 1, 1), ("q", 3, 2)], [])
        self.assert_drawn(picture, [("p", "right", 3), ("q", "left", 3)], [" p    ", " | q  ", "q###-p"])

    def test_beside_a_plain_drawing(self):
        chance = random.Random("drawn")
        for picture in chance_pictures("drawn", 300, 5, 6):
            for turn in range(4):
                pairs = chance_pairs(picture, chance)
                self.assert_drawn(picture, pairs, plain_drawing(picture, pairs))
            pairs = answer(picture)[0]
            self.assert_drawn(picture, pairs, plain_drawing(picture, pairs))

    def test_great_pictures(self):
        chance = random.Random("great drawings")
        for picture in [full_picture(), *chance_pictures("great drawings", 30, 12, 16)]:
            pairs = chance_pairs(picture, chance)
            self.assert_drawn(picture, pairs, plain_drawing(picture, pairs))

    def test_the_askers_own(self):
        picture = picture_of_points(3, 3, [("p", 2, 2)], [("left", 1)])
        drawn(picture, []).clear()
        rows = drawn(picture, [])
        picture.take("p")
        self.assertEqual(rows, [".    ", "  p  ", "     "])
        self.assertEqual(drawn(picture, []), [".    ", "     ", "     "])


class MirroredTest(unittest.TestCase):
    """[85]"""

    def test_mirrored_turned_and_both(self):
        chance = random.Random("mirrored drawings")
        for picture in chance_pictures("mirrored drawings", 150, 5, 7):
            pairs = chance_pairs(picture, chance)
            rows = drawn(picture, pairs)
            mirrored, turned = mirrored_pairs(pairs), turned_pairs(pairs, picture.height)
            self.assertEqual(drawn(picture.mirrored(), mirrored), [text[::-1] for text in rows])
            self.assertEqual(drawn(picture.turned(), turned), rows[::-1])
            both = turned_pairs(mirrored, picture.height)
            self.assertEqual(drawn(picture.mirrored().turned(), both), [text[::-1] for text in rows[::-1]])

    def test_by_hand(self):
        picture = picture_of_points(3, 2, [("p", 1, 1), ("q", 3, 2)], [("left", 1)])
        pairs = [("p", "right", 2)]
        self.assertEqual(drawn(picture, pairs), [".p   ", " +-qp"])
        self.assertEqual(drawn(picture.mirrored(), mirrored_pairs(pairs)), ["   p.", "pq-+ "])
        self.assertEqual(drawn(picture.turned(), turned_pairs(pairs, 2)), [" +-qp", ".p   "])


if __name__ == "__main__":
    unittest.main()
