"""[2], [11]: the two sides of a frame, and the side of a word."""

import copy
import unittest

from rimnotes.errors import NoSide, RimError
from rimnotes.sides import LeftSide, RightSide, Side, side_of
from things import EqualToAll

NO_SIDES = [
    "both", "", "Left", "LEFT", "Right", "RIGHT", "left ", " left", "left\n", "\tleft", "right ", " right", "right\n",
    "lef", "eft", "leftleft", "left right", "leftright", "l", "r", "a", "1", "up", "none",
    0, 1, -1, 2, 31, 10 ** 5000, True, False, None, ["left"], ["right"], [], ("left",), ("right",), (), ("left", 1),
    {}, {"left": 1}, {"left": "left"}, {"left"}, b"left", object(), str, LeftSide, LeftSide(3),
    EqualToAll("left"), EqualToAll("right"),
]


class SideChecks(unittest.TestCase):
    def assert_left(self, side, width):
        self.assertIs(type(side), LeftSide)
        self.assertIsInstance(side, Side)
        self.assertNotIsInstance(side, RightSide)
        self.assertEqual(side.word(), "left")
        self.assert_number(side.rim(), 0)
        self.assert_number(side.way(), -1)
        for x in range(1, width + 1):
            self.assert_number(side.across(x), x)

    def assert_right(self, side, width):
        self.assertIs(type(side), RightSide)
        self.assertIsInstance(side, Side)
        self.assertNotIsInstance(side, LeftSide)
        self.assertEqual(side.word(), "right")
        self.assert_number(side.rim(), width + 1)
        self.assert_number(side.way(), 1)
        for x in range(1, width + 1):
            self.assert_number(side.across(x), width + 1 - x)

    def assert_number(self, told, asked):
        self.assertIs(type(told), int)
        self.assertEqual(told, asked)


class SideTest(SideChecks):
    def test_both_sides_of_every_width(self):
        for width in range(1, 31):
            self.assert_left(LeftSide(width), width)
            self.assert_right(RightSide(width), width)

    def test_some_told_numbers(self):
        self.assertEqual(LeftSide(1).across(1), 1)
        self.assertEqual(RightSide(1).across(1), 1)
        self.assertEqual(RightSide(1).rim(), 2)
        self.assertEqual(RightSide(30).rim(), 31)
        self.assertEqual([RightSide(5).across(x) for x in (1, 2, 3, 4, 5)], [5, 4, 3, 2, 1])
        self.assertEqual([LeftSide(5).across(x) for x in (1, 2, 3, 4, 5)], [1, 2, 3, 4, 5])

    def test_way_leads_to_the_rim(self):
        for width in range(1, 31):
            for side in (LeftSide(width), RightSide(width)):
                for x in range(1, width + 1):
                    self.assertEqual(x + side.way() * side.across(x), side.rim())

    def test_neither_class_stands_under_the_other(self):
        self.assertEqual(LeftSide.__bases__, (Side,))
        self.assertEqual(RightSide.__bases__, (Side,))

    def test_sides_of_unlike_widths_beside_one_another(self):
        widths = list(range(1, 31)) + list(range(30, 0, -1))
        made = [(width, LeftSide(width), RightSide(width)) for width in widths]
        told = [(width, side_of("left", width), side_of("right", width)) for width in widths]
        for width, left, right in made + told + made:
            self.assert_left(left, width)
            self.assert_right(right, width)

    def test_the_same_is_told_again(self):
        side = RightSide(7)
        self.assertEqual([side.across(2), side.rim(), side.across(2), side.rim()], [6, 8, 6, 8])


class SideOfTest(SideChecks):
    def test_the_two_words(self):
        for width in range(1, 31):
            self.assert_left(side_of("left", width), width)
            self.assert_right(side_of("right", width), width)

    def test_words_that_are_put_together(self):
        self.assert_left(side_of("".join(["le", "ft"]), 4), 4)
        self.assert_right(side_of("".join(["ri", "ght"]), 4), 4)

    def test_each_call_makes_a_side_of_its_own(self):
        for word in ("left", "right"):
            self.assertIsNot(side_of(word, 6), side_of(word, 6))

    def test_anything_else_is_refused_with_what_was_handed_in(self):
        for number, thing in enumerate(NO_SIDES):
            for width in (1, 12, 30):
                with self.assertRaises(NoSide, msg=number) as caught:
                    side_of(thing, width)
                self.assertIs(type(caught.exception), NoSide)
                self.assertIsInstance(caught.exception, RimError)
                self.assertIs(caught.exception.side, thing)

    def test_what_is_refused_is_not_changed(self):
        for thing in (["left", ["right"]], {"left": ["right"]}):
            before = copy.deepcopy(thing)
            with self.assertRaises(NoSide) as caught:
                side_of(thing, 5)
            self.assertEqual(thing, before)
            self.assertEqual(caught.exception.side, before)

    def test_a_refusal_changes_nothing_told_later(self):
        side = side_of("right", 9)
        with self.assertRaises(NoSide):
            side_of("both", 5)
        self.assert_right(side, 9)
        self.assert_left(side_of("left", 9), 9)


if __name__ == "__main__":
    unittest.main()
