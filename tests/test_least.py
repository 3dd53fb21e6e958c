"""[5], [6], [8], [50] to [53]: the least giving with its prices, and papers that are held against points."""

import itertools
import random
import unittest

from rimnotes.errors import NoRoom, RimError
from rimnotes.keeping import fits, kept
from rimnotes.least import fault, least
from rimnotes.meets import is_giving, total
from rimnotes.pictures import Picture
from things import (
    all_givings, can_sit, caught, chance_pictures, full_picture, names_of, ordinary_picture, picture_of_points,
    rim_seats, room_of, state)


def least_total(picture, names):
    return total(picture, least(picture, names)[0])


class LeastCase(unittest.TestCase):
    def assert_prices(self, picture, names, pairs, own, rent):
        """Each sentence of [50], and the kinds of the interface."""
        self.assertEqual([type(pairs), type(own), type(rent)], [list, dict, dict])
        self.assertEqual([type(pair) for pair in pairs], [tuple] * len(pairs))
        self.assertEqual([pair[0] for pair in pairs], names)
        self.assertTrue(is_giving(picture, names, pairs))
        self.assertEqual((sorted(own), sorted(rent)), (sorted(names), picture.seats()))
        for price in list(own.values()) + list(rent.values()):
            self.assertIs(type(price), int)
        taken = [pair[1:] for pair in pairs]
        for seat, price in rent.items():
            self.assertLessEqual(price, 0)
            if seat not in taken:
                self.assertEqual(price, 0)
        for name, taken_seat in zip(names, taken):
            for seat in picture.seats_for(name):
                self.assertLessEqual(own[name] + rent[seat], picture.length(name, *seat))
            self.assertEqual(own[name] + rent[taken_seat], picture.length(name, *taken_seat))
        self.assertEqual(total(picture, pairs), sum(own.values()) + sum(rent.values()))

    def assert_least(self, picture, names):
        handed_in, before = list(names), state(picture)
        told = least(picture, names)
        self.assertIs(type(told), tuple)
        self.assert_prices(picture, names, *told)
        self.assertIsNone(fault(picture, names, *told))
        self.assertEqual((names, state(picture)), (handed_in, before))
        self.assertEqual(least(picture.copied(), list(names)), told)
        return total(picture, told[0])

    def assert_no_room(self, picture, names):
        handed_in, before = list(names), state(picture)
        refusal = caught(RimError, least, picture, names)
        self.assertIs(type(refusal), NoRoom)
        self.assertIs(type(refusal.holders), list)
        self.assertEqual(len(set(refusal.holders)), len(refusal.holders))
        self.assertLessEqual(set(refusal.holders), set(names))
        self.assertLess(len(room_of(picture, refusal.holders)), len(refusal.holders))
        self.assertEqual((names, state(picture)), (handed_in, before))
        again = caught(RimError, least, picture.copied(), list(names))
        self.assertEqual(again.holders, refusal.holders)


class LeastTest(LeastCase):
    def test_no_points(self):
        self.assertEqual(least(Picture(3, 3), []), ([], {}, {}))
        self.assertEqual(least(ordinary_picture(), []), ([], {}, {
            ("left", 2): 0, ("left", 3): 0, ("left", 6): 0, ("right", 1): 0, ("right", 3): 0, ("right", 7): 0}))

    def test_by_hand(self):
        picture = picture_of_points(5, 3, [("a", 2, 2), ("b", 4, 3)], [("left", 2), ("right", 3)])
        self.assertEqual(least(picture, ["a", "b"])[0], [("a", "left", 2), ("b", "right", 3)])
        self.assertEqual(least(picture, ["b", "a"])[0], [("b", "right", 3), ("a", "left", 2)])
        self.assertEqual(self.assert_least(picture, ["a", "b"]), 4)

    def test_one_gives_way_to_the_other(self):
        # Both are nearest to the left seat; b would lose more by leaving it than a.
        picture = picture_of_points(6, 4, [("a", 3, 2), ("b", 1, 3)], [("left", 2), ("right", 2)])
        for names in (["a", "b"], ["b", "a"]):
            pairs, own, rent = least(picture, names)
            self.assertEqual(sorted(pairs), [("a", "right", 2), ("b", "left", 2)])
            self.assert_least(picture, names)
            self.assertLess(rent[("left", 2)], 0)

    def test_beside_all_givings_of_small_pictures(self):
        for picture in chance_pictures("least", 300):
            names = names_of(picture)
            for count in range(len(names) + 1):
                for part in itertools.permutations(names, count):
                    totals = [total(picture, giving) for giving in all_givings(picture, list(part))]
                    if totals:
                        self.assertEqual(self.assert_least(picture, list(part)), min(totals))
                    else:
                        self.assert_no_room(picture, list(part))

    def test_somewhat_greater_pictures(self):
        for picture in chance_pictures("greater", 60, 5, 6):
            names = kept(picture)
            least_of_all = min(total(picture, giving) for giving in all_givings(picture, names))
            self.assertEqual(self.assert_least(picture, names), least_of_all)

    def test_the_kept_of_great_pictures(self):
        for picture in chance_pictures("great", 60, 12, 16):
            self.assert_least(picture, kept(picture))
            self.assert_least(picture, kept(picture)[::-1])

    def test_twelve_points_with_all_seats_open(self):
        picture = full_picture()
        for seat in rim_seats(16):
            picture.open_seat(*seat)
        names = names_of(picture)
        self.assertEqual(self.assert_least(picture, names), sum(range(1, 13)))
        self.assertEqual(self.assert_least(picture, names[::-1]), sum(range(1, 13)))

    def test_twelve_points_beside_twelve_seats(self):
        picture = full_picture()
        for row in range(1, 13):
            picture.open_seat("right", row)
        names = names_of(picture)
        self.assertEqual(self.assert_least(picture, names), sum(31 - x for x in range(1, 13)))
        picture = full_picture()
        for row in range(5, 17):
            picture.open_seat("left", row)
        self.assertEqual(self.assert_least(picture, names), sum(range(1, 13)) + 12 * 4)

    def test_the_askers_own(self):
        picture = ordinary_picture()
        names = ["a", "b", "c"]
        told = least(picture, names)
        kept_told = (list(told[0]), dict(told[1]), dict(told[2]))
        told[0].clear()
        told[1]["a"] = 99
        told[2][("left", 2)] = 99
        names.append("z")
        self.assertEqual(least(picture, ["a", "b", "c"]), kept_told)


class NoRoomTest(LeastCase):
    def test_by_hand(self):
        picture = ordinary_picture()
        picture.shut_seat("right", 3)
        self.assertEqual(caught(NoRoom, least, picture, ["a", "b", "c"]).holders, ["b"])
        self.assertEqual(caught(NoRoom, least, Picture(1, 1), []), "not refused: ([], {}, {})")

    def test_more_points_than_seats(self):
        picture = full_picture()
        for row in range(1, 12):
            picture.open_seat("left", row)
        self.assert_no_room(picture, names_of(picture))
        self.assertEqual(sorted(caught(NoRoom, least, picture, names_of(picture)).holders), names_of(picture))

    def test_holders_are_the_refusals_own(self):
        picture = full_picture()
        refusal = caught(NoRoom, least, picture, ["a", "b"])
        told = list(refusal.holders)
        refusal.holders.append("z")
        self.assertEqual(caught(NoRoom, least, picture, ["a", "b"]).holders, told)
        self.assertEqual(fits(picture, ["a", "b"]), told)


class FaultTest(unittest.TestCase):
    def setUp(self):
        # The lengths: a to left 2 is 2, to left 3 is 3, to right 1 is 5; b to left 2 is 5, to left 3 is 4.
        self.picture = picture_of_points(
            5, 4, [("a", 2, 2), ("b", 4, 3, "left")], [("left", 2), ("left", 3), ("right", 1)])
        self.names = ["a", "b"]
        self.pairs = [("a", "left", 2), ("b", "left", 3)]
        self.own = {"a": 2, "b": 4}
        self.rent = {("left", 2): 0, ("left", 3): 0, ("right", 1): 0}

    def assert_fault(self, wanted, names=None, pairs=None, own=(), rent=()):
        handed_in = [names or self.names, self.pairs if pairs is None else pairs,
                     dict(self.own, **dict(own)), {**self.rent, **dict(rent)}]
        copies = [list(handed_in[0]), list(handed_in[1]), dict(handed_in[2]), dict(handed_in[3])]
        before = state(self.picture)
        told = fault(self.picture, *handed_in)
        self.assertEqual(told, wanted)
        if wanted is not None:
            self.assertIs(type(told), tuple)
        self.assertEqual((handed_in, state(self.picture)), (copies, before))

    def test_none(self):
        self.assert_fault(None)
        self.assert_fault(None, names=["b", "a"], pairs=self.pairs[::-1])
        self.assert_fault(None, own={"a": 3}, rent={("left", 2): -1})
        self.assert_fault(None, own={"a": 3, "b": 5}, rent={("left", 2): -1, ("left", 3): -1})
        self.assertIsNone(fault(Picture(2, 2), [], [], {}, {}))
        self.assertIsNone(fault(self.picture, [], [], {}, self.rent))

    def test_no_giving(self):
        for pairs in [
            [], self.pairs[:1], self.pairs[1:], self.pairs[::-1], [("a", "left", 3), ("b", "left", 3)],
            [("a", "left", 2), ("b", "left", 2)], [("a", "left", 1), ("b", "left", 3)],
            [("a", "left", 2), ("b", "right", 1)], [("a", "right", 2), ("b", "left", 3)],
        ]:
            self.assert_fault(("giving",), pairs=pairs)
        self.assert_fault(("giving",), names=["b", "a"])
        self.assertEqual(fault(self.picture, [], self.pairs, {}, self.rent), ("giving",))

    def test_a_giving_that_is_not_least(self):
        self.assert_fault(("pair", "a", "left", 3), pairs=[("a", "left", 3), ("b", "left", 2)])
        self.assert_fault(
            ("pair", "a", "left", 2), pairs=[("a", "left", 3), ("b", "left", 2)], own={"a": 3, "b": 5})

    def test_rents(self):
        for seat in self.picture.seats():
            for price in (1, 2, 99, 12345678901234567890):
                self.assert_fault(("rent", *seat), rent={seat: price})
        for price in (-1, -2, -12345678901234567890):
            self.assert_fault(("rent", "right", 1), rent={("right", 1): price})
        self.assert_fault(("rent", "left", 2), rent={("left", 2): 1, ("left", 3): 1, ("right", 1): -1})
        self.assert_fault(("rent", "left", 3), rent={("left", 3): 1, ("right", 1): 1})
        self.assert_fault(("rent", "right", 1), rent={("left", 2): -5, ("left", 3): -5, ("right", 1): 1})

    def test_a_rent_below_0_of_a_seat_that_a_pair_has(self):
        self.assert_fault(("pair", "a", "left", 2), rent={("left", 2): -1})
        self.assert_fault(("pair", "b", "left", 3), rent={("left", 3): -1})

    def test_own_prices(self):
        for price in (1, 0, -7, 3, 4, 99):
            self.assert_fault(("pair", "a", "left", 2), own={"a": price})
        for price in (3, 0, -7):
            self.assert_fault(("pair", "b", "left", 3), own={"b": price})
        self.assert_fault(("pair", "b", "left", 3), own={"b": 5})
        self.assert_fault(("pair", "b", "left", 2), own={"b": 6})
        self.assert_fault(("pair", "a", "left", 2), own={"a": 1, "b": 6})
        self.assert_fault(("pair", "b", "left", 2), names=["b", "a"], pairs=self.pairs[::-1], own={"a": 1, "b": 6})

    def test_a_pair_that_is_not_in_the_giving(self):
        self.assert_fault(("pair", "a", "left", 3), own={"a": 4}, rent={("left", 2): -2})
        self.assert_fault(None, own={"a": 5, "b": 6}, rent={("left", 2): -3, ("left", 3): -2})
        self.assert_fault(("pair", "a", "right", 1), own={"a": 6, "b": 7}, rent={("left", 2): -4, ("left", 3): -3})

    def test_the_order(self):
        self.assert_fault(("giving",), pairs=self.pairs[::-1], own={"a": 9}, rent={("left", 2): 1})
        self.assert_fault(("rent", "left", 3), own={"a": 9}, rent={("left", 3): 1})
        self.assert_fault(("rent", "right", 1), own={"a": 0}, rent={("right", 1): -1})
        self.assert_fault(("pair", "a", "left", 2), own={"a": 0, "b": 0})

    def test_a_seat_that_a_point_may_not_have_asks_nothing(self):
        # b may have no seat on the right, so its own price may be above its leader's length to it.
        self.picture.move("b", 5, 3)
        self.assertEqual(self.picture.length("b", "right", 1), 3)
        self.assert_fault(None, own={"b": 5})


class PlainFaultTest(unittest.TestCase):
    """fault beside a plain look at papers that were changed by chance."""

    def plain_fault(self, picture, names, pairs, own, rent):
        if not is_giving(picture, names, pairs):
            return ("giving",)
        faults = []
        for seat in picture.seats():
            held = [pair for pair in pairs if pair[1:] == seat]
            if not (rent[seat] <= 0 if held else rent[seat] == 0):
                faults.append(("rent", *seat))
        for name in names:
            for seat in picture.seats_for(name):
                spare = picture.length(name, *seat) - own[name] - rent[seat]
                if not (spare == 0 if (name, *seat) in pairs else spare >= 0):
                    faults.append(("pair", name, *seat))
        return faults[0] if faults else None

    def test_changed_papers(self):
        chance = random.Random("papers")
        sorts = {}
        for picture in chance_pictures("papers", 300):
            names = kept(picture)
            for turn in range(5):
                pairs, own, rent = least(picture, names)
                for prices in (own, rent):
                    for key in prices:
                        if chance.randint(1, 5) == 1:
                            prices[key] += chance.randint(-2, 2)
                if chance.randint(1, 3) == 1:
                    chance.shuffle(pairs)
                wanted = self.plain_fault(picture, names, pairs, own, rent)
                self.assertEqual(fault(picture, names, pairs, own, rent), wanted)
                sorts[wanted and wanted[0]] = True
        self.assertEqual(set(sorts), {None, "giving", "rent", "pair"})


class FollowsTest(LeastCase):
    """[53]: what follows for the least total."""

    def test_a_seat_more(self):
        for picture in chance_pictures("seat more", 100):
            names = kept(picture)
            before = least_total(picture, names)
            for seat in rim_seats(picture.height):
                if seat not in picture.seats():
                    other = picture.copied()
                    other.open_seat(*seat)
                    self.assertLessEqual(self.assert_least(other, names), before)

    def test_a_point_less(self):
        for picture in chance_pictures("point less", 150):
            names = kept(picture)
            before = least_total(picture, names)
            for name in names:
                rest = [each for each in names if each != name]
                self.assertLessEqual(least_total(picture, rest), before - 1)
                other = picture.copied()
                other.take(name)
                self.assertLessEqual(self.assert_least(other, rest), before - 1)

    def test_mirrored_and_turned(self):
        for picture in chance_pictures("mirrored least", 150):
            names = kept(picture)
            before = least_total(picture, names)
            self.assertEqual(self.assert_least(picture.mirrored(), names), before)
            self.assertEqual(self.assert_least(picture.turned(), names), before)

    def test_a_paper_without_fault_has_the_least_total(self):
        for picture in chance_pictures("without fault", 100):
            names = kept(picture)
            pairs, own, rent = least(picture, names)
            for giving in all_givings(picture, names):
                told = fault(picture, names, giving, own, rent)
                if told is None:
                    self.assertEqual(total(picture, giving), total(picture, pairs))
                else:
                    self.assertEqual(told[0] in ("rent", "pair"), True)
            self.assertTrue(can_sit(picture, names))


if __name__ == "__main__":
    unittest.main()
