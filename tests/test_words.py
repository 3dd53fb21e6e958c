"""[2], [10]: is_whole and is_name, answered for any thing."""

import copy
import string
import unittest

from rimnotes.words import is_name, is_whole
from things import EqualToAll

MANY = 10 ** 5000
NO_NUMBERS = [
    True, False, None, "", "0", "1", "5", "-3", "1\n", [], [1], [5], (), (1,), (5,), {}, {1: 1}, {5: 5},
    set(), {5}, frozenset([5]), b"5", range(5), 5j, object(), int, is_whole, EqualToAll(5),
]
NO_NAMES = [
    "", "ab", "az", "abc", "aa", "bcd", "A", "Z", "M", "0", "7", "9", " ", "  ", "\n", "\t", "a\n", "\na", "a ", " a",
    "a\t", "z\n", "Ab", "aB", "`", "{", "-", "_", "left",
    0, 1, 97, 122, -1, MANY, True, False, None, ["a"], [], ("a",), (), {"a": 1}, {}, {"a": "a"}, {"a"}, b"a",
    object(), str, is_name, EqualToAll("a"),
]


class WholeTest(unittest.TestCase):
    def test_low_and_high_are_counted_and_nothing_beyond(self):
        for low, high in [(1, 30), (1, 16), (0, 1), (-99, 99), (-9, -2), (-5, 0), (-MANY, MANY), (MANY, MANY + 7)]:
            for thing in (low, low + 1, (low + high) // 2, high - 1, high):
                self.assertIs(is_whole(thing, low, high), True)
            for thing in (low - 1, low - 2, high + 1, high + 2, low - MANY, high + MANY):
                self.assertIs(is_whole(thing, low, high), False)

    def test_every_number_of_small_ranges(self):
        for low in range(-4, 5):
            for high in range(-4, 5):
                for thing in range(-6, 7):
                    self.assertIs(is_whole(thing, low, high), thing in range(low, high + 1), (thing, low, high))

    def test_low_equal_to_high(self):
        for only in (-99, -1, 0, 1, 2, 16, 30, MANY, -MANY):
            self.assertIs(is_whole(only, only, only), True)
            self.assertIs(is_whole(only - 1, only, only), False)
            self.assertIs(is_whole(only + 1, only, only), False)

    def test_low_above_high_is_never_true(self):
        for low, high in [(1, 0), (2, 1), (5, 3), (0, -1), (16, 1), (99, -99), (MANY, -MANY)]:
            for thing in (low, high, low + 1, high - 1, (low + high) // 2, 0, 1, 4, MANY, -MANY):
                self.assertIs(is_whole(thing, low, high), False)

    def test_numbers_of_many_figures(self):
        self.assertIs(is_whole(MANY, 1, 30), False)
        self.assertIs(is_whole(-MANY, 1, 30), False)
        self.assertIs(is_whole(MANY, 1, MANY), True)
        self.assertIs(is_whole(MANY, 1, MANY - 1), False)
        self.assertIs(is_whole(7, -MANY, MANY), True)

    def test_truths_and_other_things_are_no_whole_numbers(self):
        for thing in NO_NUMBERS:
            for low, high in [(0, 1), (1, 30), (-99, 99), (0, 0), (1, 1), (-MANY, MANY), (1, 0)]:
                self.assertIs(is_whole(thing, low, high), False)

    def test_what_is_handed_in_is_not_changed(self):
        for thing in ([5, [6]], {5: [6]}, ([5],)):
            before = copy.deepcopy(thing)
            is_whole(thing, 1, 9)
            is_name(thing)
            self.assertEqual(thing, before)


class NameTest(unittest.TestCase):
    def test_every_small_letter(self):
        for letter in string.ascii_lowercase:
            self.assertIs(is_name(letter), True)

    def test_every_single_sign(self):
        for sign in [chr(number) for number in range(ord(" "), ord("~") + 1)] + ["\n", "\t"]:
            self.assertIs(is_name(sign), sign in list(string.ascii_lowercase), repr(sign))

    def test_every_text_of_two_signs(self):
        signs = string.ascii_letters + string.digits + " \n\t.`{"
        for first in signs:
            for second in signs:
                self.assertIs(is_name(first + second), False)

    def test_other_texts_and_things_are_no_names(self):
        for number, thing in enumerate(NO_NAMES):
            self.assertIs(is_name(thing), False, number)


if __name__ == "__main__":
    unittest.main()
