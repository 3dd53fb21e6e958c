"""[4] to [6], [8], [60] to [64]: the upright number, who can be exchanged, and givings that are uncrossed."""

import itertools
import random
import unittest

from rimnotes.exchanges import exchangeable, uncrossed, upright
from rimnotes.keeping import kept
from rimnotes.least import least
from rimnotes.meets import is_giving, meetings, total
from rimnotes.pictures import Picture
from things import (
    all_givings, chance_pictures, crowded_pictures, exchanges_in, full_picture, names_of, one_sided_pictures,
    ordinary_picture, picture_of_points, plain_total, rim_seats, state)


def plain_upright(picture, pairs):
    found = 0
    for name, side, row in pairs:
        x, y = picture.place_of(name)
        found += (x if side == "left" else picture.width + 1 - x) * abs(y - row)
    return found


def small_pictures(seed):
    yield from chance_pictures(seed, 80, 3, 4)
    yield from crowded_pictures(seed, 25)


def givings_of(picture):
    """Every giving of every part of a picture's points, in the order of coming and backward."""
    names = names_of(picture)
    for count in range(len(names) + 1):
        for part in itertools.combinations(names, count):
            for giving in all_givings(picture, list(part)):
                yield giving
                yield giving[::-1]


def swapped(pairs, name, other):
    seats = {pair[0]: pair[1:] for pair in pairs}
    seats[name], seats[other] = seats[other], seats[name]
    return [(pair[0], *seats[pair[0]]) for pair in pairs]


def shuffled_giving(picture, chance):
    """Some giving of the kept points, far from the least one where that can be."""
    names = kept(picture)
    seats = picture.seats()
    for turn in range(200):
        chance.shuffle(seats)
        pairs = [(name, *seat) for name, seat in zip(names, seats)]
        if is_giving(picture, names, pairs):
            return pairs
    return least(picture, names)[0]


class UprightTest(unittest.TestCase):
    def setUp(self):
        self.picture = picture_of_points(7, 6, [("p", 2, 2), ("q", 5, 4), ("r", 7, 6)], rim_seats(6))

    def test_by_hand(self):
        for pairs, wanted in [
            ([], 0),
            ([("p", "left", 2)], 0),
            ([("p", "right", 2)], 0),
            ([("p", "left", 5)], 2 * 3),
            ([("p", "right", 5)], 6 * 3),
            ([("p", "left", 1)], 2 * 1),
            ([("q", "right", 1)], 3 * 3),
            ([("r", "right", 1)], 1 * 5),
            ([("r", "left", 1)], 7 * 5),
            ([("p", "left", 4), ("q", "right", 4)], 2 * 2),
            ([("p", "left", 4), ("q", "right", 6), ("r", "left", 5)], 2 * 2 + 3 * 2 + 7 * 1),
        ]:
            for order in itertools.permutations(pairs):
                self.assertEqual(upright(self.picture, list(order)), wanted)
                self.assertIs(type(upright(self.picture, list(order))), int)

    def test_every_seat(self):
        for name in "pqr":
            for seat in rim_seats(6):
                pairs = [(name, *seat)]
                self.assertEqual(upright(self.picture, pairs), plain_upright(self.picture, pairs))

    def test_nothing_is_changed(self):
        pairs, before = [("q", "left", 1), ("p", "left", 2)], state(self.picture)
        upright(self.picture, pairs)
        self.assertEqual((pairs, state(self.picture)), ([("q", "left", 1), ("p", "left", 2)], before))


class ExchangeableTest(unittest.TestCase):
    def assert_told(self, picture, pairs):
        handed_in, before = list(pairs), state(picture)
        told, wanted = exchangeable(picture, pairs), exchanges_in(picture, pairs)
        if wanted:
            self.assertIs(type(told), tuple)
            name, other, cell = told
            self.assertEqual(wanted.get((name, other)), cell)
            self.assertIs(type(cell), tuple)
        else:
            self.assertIsNone(told)
        self.assertEqual((pairs, state(picture)), (handed_in, before))
        self.assertEqual(exchangeable(picture.copied(), list(pairs)), told)

    def test_by_hand(self):
        picture = picture_of_points(5, 4, [("p", 2, 2), ("q", 4, 3)], rim_seats(4))
        for pairs, wanted in [
            ([], None),
            ([("p", "left", 3)], None),
            ([("p", "left", 2), ("q", "left", 3)], None),
            ([("p", "left", 3), ("q", "left", 2)], ("p", "q", (2, 2))),
            ([("q", "left", 2), ("p", "left", 3)], ("q", "p", (2, 2))),
            ([("p", "right", 3), ("q", "right", 2)], ("p", "q", (4, 3))),
            ([("q", "left", 1), ("p", "right", 1)], ("q", "p", (4, 1))),
            ([("p", "right", 1), ("q", "left", 1)], ("p", "q", (2, 1))),
            ([("p", "left", 1), ("q", "right", 1)], None),
        ]:
            self.assertEqual(exchangeable(picture, pairs), wanted)
            self.assert_told(picture, pairs)

    def test_where_only_one_may_have_the_others_seat(self):
        pairs = [("p", "left", 3), ("q", "left", 2)]
        for sides_and_windows, wanted in [
            ((("both", 1, 4), ("both", 1, 4)), ("p", "q", (2, 2))),
            ((("left", 2, 3), ("left", 2, 3)), ("p", "q", (2, 2))),
            ((("both", 3, 4), ("both", 1, 4)), None),
            ((("both", 1, 4), ("both", 1, 2)), None),
            ((("both", 3, 3), ("both", 2, 2)), None),
        ]:
            points = [(*place, *rest) for place, rest in zip([("p", 2, 2), ("q", 4, 3)], sides_and_windows)]
            picture = picture_of_points(5, 4, points, rim_seats(4))
            self.assertEqual(exchangeable(picture, pairs), wanted)
            self.assert_told(picture, pairs[::-1])

    def test_where_only_one_may_be_on_the_others_side(self):
        pairs = [("p", "right", 1), ("q", "left", 1)]
        for sides, wanted in [
            (("both", "both"), ("p", "q", (2, 1))), (("right", "both"), None), (("both", "left"), None),
            (("right", "left"), None),
        ]:
            picture = picture_of_points(5, 4, [("p", 2, 2, sides[0]), ("q", 4, 3, sides[1])], rim_seats(4))
            self.assertEqual(exchangeable(picture, pairs), wanted)

    def test_two_that_can_behind_two_that_can_not(self):
        # p and q meet first, but p may not have q's seat; r and q can be exchanged.
        picture = picture_of_points(
            6, 6, [("p", 2, 2, "left", 3, 3), ("q", 4, 3), ("r", 1, 5)], [("left", 1), ("left", 2), ("left", 3)])
        pairs = [("p", "left", 3), ("q", "left", 2), ("r", "left", 1)]
        self.assertEqual(meetings(picture, pairs)[0], ("p", "q", (2, 2)))
        self.assertEqual(exchangeable(picture, pairs), ("q", "r", (1, 2)))
        self.assert_told(picture, pairs)

    def test_every_giving_of_small_pictures(self):
        sorts = {}
        for picture in small_pictures("exchangeable"):
            for giving in givings_of(picture):
                self.assert_told(picture, giving)
                sorts[len(exchanges_in(picture, giving)), len(meetings(picture, giving))] = True
        for sort in [(0, 0), (0, 1), (1, 1), (1, 2), (2, 2), (3, 3)]:
            self.assertIn(sort, sorts)

    def test_pairs_in_any_order(self):
        for picture in chance_pictures("orders", 60, 4, 5):
            givings = list(all_givings(picture, names_of(picture)))
            for giving in givings[::max(1, len(givings) // 5)]:
                for order in itertools.permutations(giving):
                    self.assert_told(picture, list(order))


class ExchangeTest(unittest.TestCase):
    """[62]: each exchange that can be, in each giving of small pictures."""

    def test_every_exchange(self):
        stayed = 0
        for picture in small_pictures("exchange"):
            for giving in givings_of(picture):
                for name, other in exchanges_in(picture, giving):
                    behind = swapped(giving, name, other)
                    self.assertLessEqual(total(picture, behind), total(picture, giving))
                    if total(picture, behind) == total(picture, giving):
                        stayed += 1
                        sides = [pair[1] for pair in giving if pair[0] in (name, other)]
                        self.assertEqual(sides[0], sides[1])
                        self.assertGreater(upright(picture, behind), upright(picture, giving))
        self.assertGreater(stayed, 100)


class UncrossedCase(unittest.TestCase):
    def assert_uncrossed(self, picture, pairs):
        handed_in, before = list(pairs), state(picture)
        told = uncrossed(picture, pairs)
        self.assertIs(type(told), tuple)
        behind, steps = told
        self.assertEqual([type(behind), type(steps)], [list, list])
        self.assertEqual((pairs, state(picture)), (handed_in, before))
        self.assertIsNot(behind, pairs)
        walked_pairs = list(pairs)
        for step in steps:
            walked_pairs = self.assert_step(picture, walked_pairs, step)
        self.assertEqual(behind, walked_pairs)
        self.assertEqual(exchanges_in(picture, behind), {})
        self.assertTrue(is_giving(picture, [pair[0] for pair in pairs], behind))
        self.assertEqual(sorted(pair[1:] for pair in behind), sorted(pair[1:] for pair in pairs))
        if not exchanges_in(picture, pairs):
            self.assertEqual(told, (pairs, []))
        self.assertEqual(uncrossed(picture.copied(), list(pairs)), told)
        return told

    def assert_step(self, picture, pairs, step):
        self.assertIs(type(step), tuple)
        name, other, cell, length, number = step
        self.assertEqual(exchanges_in(picture, pairs).get((name, other)), cell)
        behind = swapped(pairs, name, other)
        self.assertEqual((length, number), (plain_total(picture, behind), plain_upright(picture, behind)))
        self.assertLessEqual(length, plain_total(picture, pairs))
        if length == plain_total(picture, pairs):
            sides = [pair[1] for pair in pairs if pair[0] in (name, other)]
            self.assertEqual(sides[0], sides[1])
            self.assertGreater(number, plain_upright(picture, pairs))
        return behind


class UncrossedTest(UncrossedCase):
    def test_no_pairs(self):
        for picture in (Picture(1, 1), ordinary_picture(), full_picture()):
            self.assertEqual(uncrossed(picture, []), ([], []))

    def test_by_hand(self):
        picture = picture_of_points(5, 4, [("p", 2, 2), ("q", 4, 3)], rim_seats(4))
        for pairs, wanted in [
            ([("p", "left", 3)], ([("p", "left", 3)], [])),
            ([("p", "left", 2), ("q", "left", 3)], ([("p", "left", 2), ("q", "left", 3)], [])),
            ([("p", "left", 3), ("q", "left", 2)],
             ([("p", "left", 2), ("q", "left", 3)], [("p", "q", (2, 2), 6, 0)])),
            ([("q", "left", 2), ("p", "left", 3)],
             ([("q", "left", 3), ("p", "left", 2)], [("q", "p", (2, 2), 6, 0)])),
            ([("p", "right", 1), ("q", "left", 1)],
             ([("p", "left", 1), ("q", "right", 1)], [("p", "q", (2, 1), 7, 6)])),
        ]:
            self.assertEqual(self.assert_uncrossed(picture, pairs), wanted)

    def test_a_step_that_leaves_the_total(self):
        # Behind it q goes up three rows where p did, so the upright number is greater.
        picture = picture_of_points(5, 5, [("p", 2, 5), ("q", 4, 4)], [("left", 1), ("left", 3)])
        pairs = [("p", "left", 1), ("q", "left", 3)]
        self.assertEqual((total(picture, pairs), upright(picture, pairs)), (11, 12))
        self.assertEqual(self.assert_uncrossed(picture, pairs), (
            [("p", "left", 3), ("q", "left", 1)], [("p", "q", (2, 3), 11, 16)]))

    def test_meetings_stay_where_no_exchange_may_be(self):
        picture = picture_of_points(5, 4, [("p", 2, 2, "left", 3, 3), ("q", 4, 3)], rim_seats(4))
        pairs = [("p", "left", 3), ("q", "left", 2)]
        self.assertEqual(self.assert_uncrossed(picture, pairs), (pairs, []))
        self.assertEqual(meetings(picture, pairs), [("p", "q", (2, 2))])

    def test_every_giving_of_small_pictures(self):
        most = 0
        for picture in small_pictures("uncrossed"):
            for giving in givings_of(picture):
                most = max(most, len(self.assert_uncrossed(picture, giving)[1]))
        self.assertGreater(most, 2)

    def test_greater_pictures(self):
        chance = random.Random("greater uncrossed")
        for picture in chance_pictures("greater uncrossed", 60, 12, 16):
            self.assert_uncrossed(picture, shuffled_giving(picture, chance))

    def test_the_askers_own(self):
        picture = picture_of_points(5, 4, [("p", 2, 2), ("q", 4, 3)], rim_seats(4))
        for pairs in ([("p", "left", 3), ("q", "left", 2)], [("p", "left", 2), ("q", "left", 3)]):
            told = uncrossed(picture, pairs)
            wanted = (list(told[0]), list(told[1]))
            told[0].clear()
            told[1].append("more")
            self.assertEqual(len(pairs), 2)
            self.assertEqual(uncrossed(picture, pairs), wanted)
            behind = uncrossed(picture, pairs)
            pairs.clear()
            self.assertEqual(behind, wanted)


class FollowsTest(UncrossedCase):
    """[64], and [8], its part "Apart"."""

    def test_where_every_point_may_have_every_seat_no_two_meet(self):
        chance = random.Random("free")
        for turn in range(60):
            width, height = chance.randint(1, 12), chance.randint(1, 8)
            points = chance.randint(0, min(width, height))
            picture = Picture(width, height)
            columns, rows = [chance.sample(range(1, most + 1), points) for most in (width, height)]
            for name, x, y in zip("hgfedcba", columns, rows):
                picture.put(name, x, y)
            for seat in chance.sample(rim_seats(height), points):
                picture.open_seat(*seat)
            behind, steps = self.assert_uncrossed(picture, shuffled_giving(picture, chance))
            self.assertEqual(len(behind), points)
            self.assertEqual(meetings(picture, behind), [])

    def test_twelve_points(self):
        chance = random.Random("twelve")
        for turn in range(20):
            picture = Picture(30, 16)
            rows = chance.sample(range(1, 17), 12)
            for name, x, y in zip("abcdefghijkl", chance.sample(range(1, 31), 12), rows):
                picture.put(name, x, y)
            for seat in rim_seats(16)[:12] if turn % 2 else rim_seats(16):
                picture.open_seat(*seat)
            behind, steps = self.assert_uncrossed(picture, shuffled_giving(picture, chance))
            self.assertEqual((len(behind), meetings(picture, behind)), (12, []))

    def test_begun_from_the_least_total_no_step_changes_it(self):
        steps_in_all = 0
        for picture in itertools.chain(
                chance_pictures("from the least", 100), one_sided_pictures("from the least", 60)):
            names = kept(picture)
            givings = list(all_givings(picture, names))
            least_total = min(total(picture, giving) for giving in givings)
            for giving in givings:
                if total(picture, giving) == least_total:
                    behind, steps = self.assert_uncrossed(picture, giving)
                    self.assert_total_stays(picture, giving, steps, least_total)
                    steps_in_all += len(steps)
        self.assertGreater(steps_in_all, 10)

    def assert_total_stays(self, picture, giving, steps, least_total):
        for name, other, cell, length, number in steps:
            self.assertEqual(length, least_total)
            sides = [pair[1] for pair in giving if pair[0] in (name, other)]
            self.assertEqual(sides[0], sides[1])
            giving = swapped(giving, name, other)
        for name, other, cell in meetings(picture, giving):
            seats = {pair[0]: pair[1:] for pair in giving}
            self.assertFalse(picture.may(name, *seats[other]) and picture.may(other, *seats[name]))


if __name__ == "__main__":
    unittest.main()
