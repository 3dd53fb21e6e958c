"""[6], [7], [82] to [84]: rows of signs read back, and what of them is refused."""

import itertools
import random
import string
import unittest

from rimnotes.drawings import drawn, seen
from rimnotes.errors import BadDrawing, RimError
from rimnotes.pictures import Picture
from things import (
    THINGS, caught, chance_pairs, chance_pictures, full_picture, names_of, picture_of_points, plain_drawing, rim_seats,
    state)

LETTERS = string.ascii_lowercase


def plain_reading(rows):
    """What [82] says of rows that are good texts with signs that may stand where they stand."""
    width, height = len(rows[0]) - 2, len(rows)
    signs = {(column, row): rows[row - 1][column] for row in range(1, height + 1) for column in range(width + 2)}
    picture = Picture(width, height)
    pairs = []
    for name in LETTERS:
        for (column, row), sign in signs.items():
            if sign == name and 0 < column <= width:
                picture.put(name, column, row)
    for column, side in ((0, "left"), (width + 1, "right")):
        for row in range(1, height + 1):
            if signs[(column, row)] != " ":
                picture.open_seat(side, row)
            if signs[(column, row)] in LETTERS:
                pairs.append((signs[(column, row)], side, row))
    return picture, sorted(pairs)


def plain_fault(rows):
    """The row and column of the refusal that is due for a list of texts, or None."""
    if not 1 <= len(rows) <= 16:
        return (0, 0)
    for row, text in enumerate(rows):
        if not 3 <= len(text) <= 32 or len(text) != len(rows[0]):
            return (row, 0)
    order = [(row, column) for row in range(len(rows)) for column in range(len(rows[0]))]
    rims = [place for place in order if place[1] in (0, len(rows[0]) - 1)]
    sign_at = {place: rows[place[0]][place[1]] for place in order}
    for number, place in enumerate(order):
        sign = sign_at[place]
        names = [other for other in order[:number] if (other in rims) == (place in rims) and sign_at[other] in LETTERS]
        good = sign in LETTERS and sign not in [sign_at[other] for other in names]
        if place not in rims:
            good = good and len(names) < 12 and not any(a == place[0] or b == place[1] for a, b in names)
        if not good and sign not in (" ." if place in rims else " |-+#"):
            return place
    within = [sign_at[place] for place in order if place not in rims]
    for place in rims:
        if sign_at[place] in LETTERS and sign_at[place] not in within:
            return place
    drawing = plain_drawing(*plain_reading(rows))
    for row, column in order:
        if drawing[row][column] != rows[row][column]:
            return (row, column)
    return None


class SeenCase(unittest.TestCase):
    def assert_bad(self, thing, row, column):
        refusal = caught(RimError, seen, thing)
        self.assertIs(type(refusal), BadDrawing)
        self.assertEqual(vars(refusal), {"row": row, "column": column})
        self.assertEqual([type(refusal.row), type(refusal.column)], [int, int])

    def assert_seen(self, rows):
        handed_in = list(rows)
        told = seen(rows)
        self.assertEqual(rows, handed_in)
        self.assertIs(type(told), tuple)
        picture, pairs = told
        self.assertEqual([type(picture), type(pairs)], [Picture, list])
        self.assertEqual([type(pair) for pair in pairs], [tuple] * len(pairs))
        wanted, wanted_pairs = plain_reading(rows)
        self.assertEqual((state(picture), pairs), (state(wanted), wanted_pairs))
        self.assertEqual(drawn(picture, pairs), rows)
        again = seen(list(rows))
        self.assertEqual((state(again[0]), again[1]), (state(picture), pairs))
        return told

    def assert_plain(self, rows):
        fault = plain_fault(rows)
        if fault is None:
            self.assert_seen(rows)
        else:
            self.assert_bad(rows, *fault)
        return fault


class SeenTest(SeenCase):
    def test_nothing(self):
        picture, pairs = self.assert_seen(["   "])
        self.assertEqual((state(picture), pairs), ((1, 1, [], []), []))
        picture, pairs = self.assert_seen([" " * 32] * 16)
        self.assertEqual((state(picture), pairs), ((30, 16, [], []), []))

    def test_by_hand(self):
        rows = ["r+     .",
                "q#p-+   ",
                "p#+ q   ",
                " |      ",
                ".r    a ",
                "        "]
        picture, pairs = self.assert_seen(rows[:4] + [".r      ", "     a  "])
        self.assertEqual(state(picture), (6, 6, [
            ("a", 5, 6, "both", 1, 6), ("p", 2, 2, "both", 1, 6), ("q", 4, 3, "both", 1, 6),
            ("r", 1, 5, "both", 1, 6)], [("left", 1), ("left", 2), ("left", 3), ("left", 5), ("right", 1)]))
        self.assertEqual(pairs, [("p", "left", 3), ("q", "left", 2), ("r", "left", 1)])
        # Two letters stand in one row.
        self.assert_bad(rows, 4, 6)

    def test_pairs_of_both_rims_in_the_order_of_the_alphabet(self):
        picture, pairs = self.assert_seen(["  b-b", "aa  .", ".  cc"])
        self.assertEqual(pairs, [("a", "left", 2), ("b", "right", 1), ("c", "right", 3)])
        self.assertEqual(names_of(picture), ["a", "b", "c"])

    def test_twelve_letters_within(self):
        rows = drawn(full_picture(), [])
        self.assertEqual(names_of(self.assert_seen(rows)[0]), list("abcdefghijkl"))
        rows[12] = " " * 13 + "m" + " " * 18
        self.assert_bad(rows, 12, 13)
        rows[15] = "!" * 32
        self.assert_bad(rows, 12, 13)

    def test_drawings_are_read_back(self):
        chance = random.Random("read back")
        for picture in chance_pictures("read back", 200, 5, 6):
            pairs = chance_pairs(picture, chance)
            back, back_pairs = self.assert_seen(drawn(picture, pairs))
            self.assertEqual((back.width, back.height), (picture.width, picture.height))
            places = [(name, x, y, "both", 1, picture.height) for name, x, y, *rest in picture.points()]
            self.assertEqual(back.points(), sorted(places))
            self.assertEqual(back.seats(), sorted(set(picture.seats()) | {pair[1:] for pair in pairs}))
            self.assertEqual(back_pairs, sorted(pairs))

    def test_great_drawings_are_read_back(self):
        chance = random.Random("great read back")
        for picture in [full_picture(), *chance_pictures("great read back", 20, 12, 16)]:
            pairs = chance_pairs(picture, chance)
            self.assertEqual(self.assert_seen(drawn(picture, pairs))[1], sorted(pairs))

    def test_the_askers_own(self):
        rows = ["pp  .", "  q  "]
        picture, pairs = seen(rows)
        before = state(picture)
        rows[0] = "     "
        pairs.clear()
        picture.take("p")
        again, again_pairs = seen(["pp  .", "  q  "])
        self.assertEqual((state(again), again_pairs), (before, [("p", "left", 1)]))


class BadDrawingTest(SeenCase):
    def test_no_list_of_one_to_sixteen_things(self):
        for thing in THINGS + ["   ", ("   ",), {0: "   "}, iter(["   "])]:
            if not isinstance(thing, list):
                self.assert_bad(thing, 0, 0)
        self.assert_bad([], 0, 0)
        for count in (17, 18, 40):
            self.assert_bad(["   "] * count, 0, 0)
            self.assert_bad([None] * count, 0, 0)
            self.assert_bad(["   "] * (count - 1) + ["!!!"], 0, 0)
        for count in (1, 2, 15, 16):
            self.assert_seen(["   "] * count)

    def test_things_that_are_no_texts(self):
        for thing in [thing for thing in THINGS if not isinstance(thing, str)] + [["   "], ("   ",), b"   ", 3]:
            self.assert_bad([thing], 0, 0)
            self.assert_bad([thing, "   "], 0, 0)
            self.assert_bad(["   ", thing], 1, 0)
            self.assert_bad(["!!!", "   ", thing], 2, 0)

    def test_lengths(self):
        for count in (0, 1, 2, 33, 34, 100):
            self.assert_bad([" " * count], 0, 0)
            self.assert_bad([" " * count] * 2, 0, 0)
            self.assert_bad(["   ", " " * count], 1, 0)
            self.assert_bad([" " * 32, " " * 32, " " * count], 2, 0)
        for count in (3, 4, 31, 32):
            self.assert_seen([" " * count])
            self.assert_seen([" " * count] * 3)

    def test_unlike_lengths(self):
        for rows, row in [(["   ", "    "], 1), (["    ", "   "], 1), (["   ", "   ", "    ", "   "], 2),
                          (["   ", "  ", None], 1), (["   ", None, "  "], 1), (["    ", "   ", "   "], 1)]:
            self.assert_bad(rows, row, 0)

    def test_lengths_go_ahead_of_signs(self):
        self.assert_bad(["!!!", "!!!", "  "], 2, 0)
        self.assert_bad(["pp!", "   ", 7], 2, 0)
        self.assert_bad(["a  ", "    "], 1, 0)

    def test_signs_on_the_rims(self):
        for sign in [chr(number) for number in range(32, 127)] + ["\n", "\t"]:
            for column in (0, 4):
                rows = ["     ", " " * column + sign + " " * (4 - column), "  p  "]
                if sign in " .":
                    self.assert_seen(rows)
                elif sign == "p":
                    self.assert_bad(rows, 1, 1 if column == 0 else 2)
                else:
                    self.assert_bad(rows, 1, column)

    def test_signs_within(self):
        for sign in [chr(number) for number in range(32, 127)] + ["\n", "\t"]:
            for column in (1, 2, 3):
                rows = ["     ", " " * column + sign + " " * (4 - column)]
                if sign == " " or sign in LETTERS:
                    self.assert_seen(rows)
                else:
                    # The signs of leaders may stand there, but there is no leader.
                    self.assert_bad(rows, 1, column)

    def test_signs_that_may_not_stand_go_ahead_of_those_of_leaders(self):
        for sign in "|-+#":
            self.assert_bad([" " + sign + " ", "  !"], 1, 2)
            self.assert_bad([" " + sign + " ", "   "], 0, 1)
            self.assert_bad([sign + "  ", "  !"], 0, 0)

    def test_a_letter_twice_on_the_rims(self):
        self.assert_bad(["pp ", "p  "], 1, 0)
        self.assert_bad(["ppp"], 0, 2)
        self.assert_bad(["  p", "pp "], 1, 0)
        self.assert_bad(["q  ", " p ", "  q"], 2, 2)

    def test_a_letter_twice_within(self):
        self.assert_bad([" p   ", "   p "], 1, 3)
        self.assert_bad([" p   ", "   p!"], 1, 3)
        self.assert_bad([" p   ", "!  p "], 1, 0)

    def test_two_letters_in_one_row_or_column(self):
        self.assert_bad([" pq  "], 0, 2)
        self.assert_bad([" p q "], 0, 3)
        self.assert_bad([" p ", " q "], 1, 1)
        self.assert_bad([" p  ", "    ", " q  "], 2, 1)
        self.assert_bad([" p  ", "  q ", "   !", " r  "], 2, 3)

    def test_the_rims_are_no_column_or_row_of_points(self):
        self.assert_seen(["pp  ", ".  ."])
        self.assert_seen(["q+  ", ".|  ", " q  "])

    def test_a_letter_of_the_rims_that_stands_nowhere_within(self):
        self.assert_bad(["p  "], 0, 0)
        self.assert_bad(["  p"], 0, 2)
        self.assert_bad(["  p", "q  "], 0, 2)
        self.assert_bad([" r ", "  p", "q  "], 1, 2)
        self.assert_bad(["pp ", "q  "], 1, 0)
        # This goes ahead of signs that are other ones in the drawing, and behind those that may not stand.
        self.assert_bad([" + ", "q  "], 1, 0)
        self.assert_bad(["q  ", "  !"], 1, 2)

    def test_another_sign_in_the_drawing(self):
        self.assert_bad(["p p  "], 0, 1)
        self.assert_bad(["p|p  "], 0, 1)
        self.assert_bad(["p-p- "], 0, 3)
        self.assert_bad(["p-+  ", "     ", "  p  "], 1, 2)
        self.assert_bad(["p--  ", "  |  ", "  p  "], 0, 2)
        self.assert_bad(["p-+  ", "  +  ", "  p  "], 1, 2)
        self.assert_bad(["p-+  ", "  #  ", "  p  "], 1, 2)
        self.assert_bad(["q+     ", "p|p  - ", " q     "], 1, 1)
        self.assert_seen(["p-+  ", "  |  ", "  p  "])

    def test_two_reasons_at_once(self):
        for rows, row, column in [
            (["!  ", "  "], 1, 0),
            (["!  ", "q  "], 0, 0),
            (["q  ", "! +"], 1, 0),
            (["q  ", " + "], 0, 0),
            ([" + ", " q ", "q  ", "  r"], 3, 2),
            ([" +!", "q  "], 0, 2),
            ([" + ", "   ", "    "], 2, 0),
        ]:
            self.assert_bad(rows, row, column)
            self.assertEqual(plain_fault(rows), (row, column))


class ChangedTest(SeenCase):
    """Rows beside a plain look at them, sign by sign."""

    def test_every_single_sign_changed(self):
        chance = random.Random("changed")
        sorts = {}
        for picture in chance_pictures("changed signs", 40, 4, 4):
            pairs = chance_pairs(picture, chance)
            rows = drawn(picture, pairs)
            for row, column in itertools.product(range(picture.height), range(picture.width + 2)):
                for sign in " .|-+#" + "".join(names_of(picture)) + chance.choice(LETTERS) + chance.choice("!A~0"):
                    changed = list(rows)
                    changed[row] = rows[row][:column] + sign + rows[row][column + 1:]
                    fault = self.assert_plain(changed)
                    sorts[None if fault is None else fault == (row, column)] = True
        self.assertEqual(set(sorts), {None, True, False})

    def test_every_two_rows_of_few_signs(self):
        for signs in itertools.product(" .pq-", repeat=3):
            self.assert_plain(["".join(signs)])
        for outer in itertools.product(" .pq", repeat=4):
            for inner in itertools.product(" pq+|", repeat=2):
                self.assert_plain([outer[0] + inner[0] + outer[1], outer[2] + inner[1] + outer[3]])

    def test_rows_by_chance(self):
        chance = random.Random("rows by chance")
        for turn in range(1500):
            width, height = chance.randint(3, 6), chance.randint(1, 4)
            rows = ["".join(chance.choice("      ..|-+#pqr") for column in range(width)) for row in range(height)]
            self.assert_plain(rows)

    def test_drawings_with_two_signs_changed(self):
        chance = random.Random("two changed")
        for picture in chance_pictures("two changed", 300, 4, 5):
            rows = drawn(picture, chance_pairs(picture, chance))
            for turn in range(2):
                row, column = chance.randrange(picture.height), chance.randrange(picture.width + 2)
                sign = chance.choice(" .|-+#!" + "".join(names_of(picture)))
                rows[row] = rows[row][:column] + sign + rows[row][column + 1:]
            self.assert_plain(rows)

    def test_all_seats_of_one_point(self):
        picture = picture_of_points(3, 3, [("p", 2, 2)], rim_seats(3))
        for seat in rim_seats(3):
            self.assert_seen(drawn(picture, [("p", *seat)]))


if __name__ == "__main__":
    unittest.main()
