"""[4], [5], [6], [21], [22], [23]: where leaders meet, their total, and whether pairs are a giving."""

import itertools
import unittest

from rimnotes.meets import is_giving, meeting, meetings, total
from things import first_common, ordinary_picture, picture_of_points, rim_seats, state, walked


def small_frames():
    """Every two points of some small frames: the picture, its height, and the two cells."""
    for width, height in [(2, 2), (3, 2), (2, 3), (3, 3), (4, 3)]:
        cells = [(x, y) for x in range(1, width + 1) for y in range(1, height + 1)]
        for one, other in itertools.product(cells, cells):
            if one[0] != other[0] and one[1] != other[1]:
                picture = picture_of_points(width, height, [("p", *one), ("q", *other)], [])
                yield picture, height, one, other


class MeetingTest(unittest.TestCase):
    def setUp(self):
        # . . . . .
        # . p . . .
        # . . . q .
        # r . . . .
        self.picture = picture_of_points(5, 4, [("p", 2, 2), ("q", 4, 3), ("r", 1, 4)], [])

    def test_by_hand(self):
        for one, other, cell in [
            (("p", "left", 2), ("q", "left", 3), None),
            (("p", "left", 3), ("q", "left", 2), (2, 2)),
            (("q", "left", 2), ("p", "left", 3), (2, 2)),
            (("p", "left", 4), ("q", "left", 3), (2, 3)),
            (("p", "left", 1), ("q", "left", 4), None),
            (("p", "left", 3), ("q", "left", 4), None),
            (("p", "left", 4), ("r", "left", 3), (1, 4)),
            (("p", "left", 3), ("r", "left", 1), (1, 3)),
            (("r", "left", 1), ("p", "left", 3), (1, 3)),
            (("p", "right", 2), ("q", "right", 1), (4, 2)),
            (("p", "right", 3), ("q", "right", 2), (4, 3)),
            (("p", "right", 1), ("q", "right", 2), None),
            (("p", "left", 3), ("q", "right", 3), None),
            (("r", "left", 1), ("q", "right", 4), None),
        ]:
            self.assertEqual(meeting(self.picture, one, other), cell, (one, other))

    def test_to_unlike_sides_the_first_cell_depends_on_whose_leader_is_walked(self):
        # Both go across in row 1, over one another from column 2 to column 4.
        self.assertEqual(meeting(self.picture, ("q", "left", 1), ("p", "right", 1)), (4, 1))
        self.assertEqual(meeting(self.picture, ("p", "right", 1), ("q", "left", 1)), (2, 1))
        # They cross twice: q's upright part with p's level part, and p's upright part with q's level part.
        self.assertEqual(meeting(self.picture, ("q", "left", 2), ("p", "right", 3)), (4, 3))
        self.assertEqual(meeting(self.picture, ("p", "right", 3), ("q", "left", 2)), (2, 2))

    def test_in_the_points_own_cell(self):
        picture = picture_of_points(3, 3, [("p", 1, 2), ("q", 3, 1)], [])
        self.assertEqual(meeting(picture, ("q", "left", 2), ("p", "left", 1)), (1, 2))
        self.assertEqual(meeting(picture, ("p", "left", 1), ("q", "left", 2)), (1, 2))

    def test_in_a_corner(self):
        picture = picture_of_points(3, 3, [("p", 1, 1), ("q", 2, 3)], [])
        self.assertEqual(meeting(picture, ("p", "right", 3), ("q", "right", 2)), (2, 3))
        picture = picture_of_points(4, 3, [("p", 1, 1), ("q", 3, 2)], [])
        self.assertEqual(meeting(picture, ("p", "right", 3), ("q", "left", 3)), (1, 3))
        self.assertEqual(meeting(picture, ("q", "left", 3), ("p", "right", 3)), (3, 3))

    def test_over_a_point_without_a_leader(self):
        self.assertEqual(meetings(self.picture, [("q", "left", 2)]), [])
        self.assertEqual(meetings(self.picture, [("q", "left", 2), ("r", "left", 4)]), [])

    def test_every_two_leaders_of_small_frames(self):
        for picture, height, (x, y), (other_x, other_y) in small_frames():
            before = state(picture)
            for seat, other_seat in itertools.permutations(rim_seats(height), 2):
                wanted = first_common(picture.width, (x, y, *seat), (other_x, other_y, *other_seat))
                told = meeting(picture, ("p", *seat), ("q", *other_seat))
                self.assertEqual(told, wanted)
                if told is not None:
                    self.assertIs(type(told), tuple)
            self.assertEqual(state(picture), before)

    def test_whether_they_meet_is_alike_for_either_of_the_two(self):
        for picture, height, cell, other_cell in small_frames():
            for seat, other_seat in itertools.permutations(rim_seats(height), 2):
                one, other = ("p", *seat), ("q", *other_seat)
                self.assertEqual(meeting(picture, one, other) is None, meeting(picture, other, one) is None)


class WhereTest(unittest.TestCase):
    """[24], [25]: what the points' and seats' places say of the meeting."""

    def test_seats_of_the_same_side(self):
        for picture, height, (x, y), (other_x, other_y) in small_frames():
            for side in ("left", "right"):
                far_is_one = (x > other_x) == (side == "left")
                for row, other_row in itertools.permutations(range(1, height + 1), 2):
                    if far_is_one:
                        near_x, near_y, near_row, far_row = other_x, other_y, other_row, row
                    else:
                        near_x, near_y, near_row, far_row = x, y, row, other_row
                    between = min(near_y, near_row) <= far_row <= max(near_y, near_row)
                    told = meeting(picture, ("p", side, row), ("q", side, other_row))
                    self.assertEqual(told, (near_x, far_row) if between else None)
                    common = [cell for cell in walked(picture.width, x, y, side, row)
                              if cell in walked(picture.width, other_x, other_y, side, other_row)]
                    self.assertEqual(common, [told] if between else [])

    def test_seats_of_unlike_sides(self):
        for picture, height, (x, y), (other_x, other_y) in small_frames():
            for row, other_row in itertools.product(range(1, height + 1), repeat=2):
                for side, other_side in [("left", "right"), ("right", "left")]:
                    told = meeting(picture, ("p", side, row), ("q", other_side, other_row))
                    own = min(y, row) <= other_row <= max(y, row)
                    theirs = min(other_y, other_row) <= row <= max(other_y, other_row)
                    leftward_is_farther_right = (x > other_x) == (side == "left")
                    if not leftward_is_farther_right or not (row == other_row or own or theirs):
                        self.assertIsNone(told)
                    elif own:
                        self.assertEqual(told, (x, other_row))
                    else:
                        self.assertEqual(told, (other_x, row))


class MeetingsTest(unittest.TestCase):
    def setUp(self):
        self.picture = picture_of_points(6, 6, [("p", 2, 2), ("q", 4, 3), ("r", 1, 5), ("s", 6, 1)], [])

    def test_by_hand(self):
        pairs = [("r", "left", 1), ("p", "left", 3), ("q", "left", 2), ("s", "right", 1)]
        self.assertEqual(meetings(self.picture, pairs), [
            ("r", "p", (1, 3)), ("r", "q", (1, 2)), ("p", "q", (2, 2))])
        self.assertEqual(meetings(self.picture, pairs[::-1]), [
            ("q", "p", (2, 2)), ("q", "r", (1, 2)), ("p", "r", (1, 3))])

    def test_the_earlier_one_is_the_one_whose_leader_is_walked(self):
        pairs = [("q", "left", 6), ("p", "right", 6)]
        self.assertEqual(meetings(self.picture, pairs), [("q", "p", (4, 6))])
        self.assertEqual(meetings(self.picture, pairs[::-1]), [("p", "q", (2, 6))])

    def test_none(self):
        self.assertEqual(meetings(self.picture, []), [])
        self.assertEqual(meetings(self.picture, [("p", "left", 6)]), [])
        self.assertEqual(meetings(self.picture, [
            ("p", "left", 2), ("q", "left", 3), ("r", "left", 5), ("s", "right", 1)]), [])

    def test_beside_a_plain_listing(self):
        for seats in itertools.permutations([("left", 1), ("left", 4), ("right", 2), ("right", 4), ("right", 6)], 4):
            for order in ("pqrs", "srqp", "qspr"):
                pairs = [(name, *seat) for name, seat in zip(order, seats)]
                wanted = []
                for one, other in itertools.combinations(pairs, 2):
                    walk = self.picture.place_of(one[0]) + one[1:]
                    cell = first_common(6, walk, self.picture.place_of(other[0]) + other[1:])
                    if cell:
                        wanted.append((one[0], other[0], cell))
                before = list(pairs)
                told = meetings(self.picture, pairs)
                self.assertEqual(told, wanted)
                self.assertEqual(pairs, before)
                self.assertIs(type(told), list)
                self.assertEqual([type(each) for each in told], [tuple] * len(told))

    def test_the_askers_own(self):
        pairs = [("p", "left", 3), ("q", "left", 2)]
        told = meetings(self.picture, pairs)
        told.clear()
        self.assertEqual(meetings(self.picture, pairs), [("p", "q", (2, 2))])
        before = state(self.picture)
        pairs.append(("r", "left", 1))
        self.assertEqual(state(self.picture), before)


class TotalTest(unittest.TestCase):
    def test_by_hand(self):
        picture = picture_of_points(5, 4, [("p", 2, 2), ("q", 4, 3), ("r", 1, 4)], [])
        self.assertEqual(total(picture, []), 0)
        self.assertEqual(total(picture, [("p", "left", 2)]), 2)
        self.assertEqual(total(picture, [("p", "left", 4)]), 4)
        self.assertEqual(total(picture, [("p", "right", 1)]), 5)
        pairs = [("p", "left", 2), ("q", "right", 1), ("r", "left", 1)]
        self.assertEqual(total(picture, pairs), 2 + 4 + 4)
        self.assertEqual(total(picture, pairs[::-1]), 10)
        self.assertEqual(pairs, [("p", "left", 2), ("q", "right", 1), ("r", "left", 1)])
        self.assertIs(type(total(picture, pairs)), int)

    def test_seats_that_are_shut_or_not_allowed_count(self):
        picture = ordinary_picture()
        before = state(picture)
        self.assertEqual(total(picture, [("a", "right", 7), ("b", "left", 1)]), 3 + 8)
        self.assertEqual(state(picture), before)

    def test_beside_the_lengths_of_walks(self):
        picture = picture_of_points(4, 3, [("p", 1, 2), ("q", 4, 1)], [])
        for seat, other in itertools.permutations(rim_seats(3), 2):
            wanted = len(walked(4, 1, 2, *seat)) + len(walked(4, 4, 1, *other)) - 2
            self.assertEqual(total(picture, [("p", *seat), ("q", *other)]), wanted)


class GivingTest(unittest.TestCase):
    def setUp(self):
        self.picture = picture_of_points(
            6, 4, [("p", 1, 1), ("q", 2, 2, "left"), ("r", 3, 3, "right", 2, 3)],
            [("left", 1), ("left", 2), ("right", 1), ("right", 2), ("right", 4)])
        self.pairs = [("p", "right", 4), ("q", "left", 1), ("r", "right", 2)]

    def assert_told(self, wanted, names, pairs):
        handed_in = (list(names), list(pairs))
        before = state(self.picture)
        self.assertIs(is_giving(self.picture, names, pairs), wanted, (names, pairs))
        self.assertEqual((names, pairs), handed_in)
        self.assertEqual(state(self.picture), before)

    def test_a_giving(self):
        self.assert_told(True, ["p", "q", "r"], self.pairs)
        self.assert_told(True, ["r", "q", "p"], self.pairs[::-1])
        self.assert_told(True, ["q"], [("q", "left", 2)])
        self.assert_told(True, ["q", "p"], [("q", "left", 2), ("p", "right", 2)])

    def test_no_names_and_no_pairs(self):
        self.assert_told(True, [], [])
        self.assert_told(False, [], [("p", "left", 1)])
        self.assert_told(False, ["p"], [])

    def test_a_pair_less_or_more(self):
        for number in range(3):
            less = self.pairs[:number] + self.pairs[number + 1:]
            self.assert_told(False, ["p", "q", "r"], less)
            self.assert_told(False, [pair[0] for pair in less], self.pairs)

    def test_another_order(self):
        for order in itertools.permutations(self.pairs):
            self.assert_told(list(order) == self.pairs, ["p", "q", "r"], list(order))
            self.assert_told(True, [pair[0] for pair in order], list(order))

    def test_other_names(self):
        self.assert_told(False, ["p", "q"], [("p", "right", 4), ("r", "right", 2)])

    def test_a_seat_that_stands_twice(self):
        self.assert_told(False, ["p", "q"], [("p", "left", 1), ("q", "left", 1)])
        self.assert_told(False, ["p", "q", "r"], [("p", "right", 2), ("q", "left", 2), ("r", "right", 2)])
        self.assert_told(True, ["p", "r"], [("p", "right", 1), ("r", "right", 2)])

    def test_one_row_on_both_sides_is_two_seats(self):
        self.assert_told(True, ["p", "q"], [("p", "right", 2), ("q", "left", 2)])

    def test_every_seat_for_every_point(self):
        for name in "pqr":
            for side, row in rim_seats(4):
                self.assert_told((side, row) in self.picture.seats_for(name), [name], [(name, side, row)])

    def test_a_shut_seat_another_side_and_out_of_the_window(self):
        self.assert_told(False, ["p"], [("p", "left", 3)])
        self.assert_told(False, ["q"], [("q", "right", 1)])
        self.assert_told(False, ["r"], [("r", "right", 1)])
        self.assert_told(False, ["r"], [("r", "right", 4)])
        self.assert_told(False, ["r"], [("r", "right", 3)])
        self.picture.open_seat("right", 3)
        self.assert_told(True, ["r"], [("r", "right", 3)])
        self.picture.shut_seat("right", 3)
        self.assert_told(False, ["r"], [("r", "right", 3)])

    def test_every_list_of_pairs_of_a_small_picture(self):
        seats = rim_seats(3)
        picture = picture_of_points(3, 3, [("p", 1, 1, "left"), ("q", 2, 2, "both", 2, 3)], seats[:2] + seats[4:])
        for one, other in itertools.product(seats, repeat=2):
            wanted = one != other and one in picture.seats_for("p") and other in picture.seats_for("q")
            self.assertIs(is_giving(picture, ["p", "q"], [("p", *one), ("q", *other)]), wanted)
            self.assertIs(is_giving(picture, ["q", "p"], [("p", *one), ("q", *other)]), False)


if __name__ == "__main__":
    unittest.main()
