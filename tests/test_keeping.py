"""[5], [6], [8], [40] to [45]: who can have seats at once, who is kept, and who is left out with which holders."""

import itertools
import random
import unittest

from rimnotes.keeping import fits, kept, left_out
from rimnotes.pictures import Picture
from things import (
    can_sit, chance_pictures, full_picture, names_of, ordinary_picture, picture_of_points, plainly_kept, rim_seats,
    room_of, state)


def out_of(picture):
    return [name for name, holders in left_out(picture)]


class KeepingCase(unittest.TestCase):
    def assert_fits(self, picture, names):
        handed_in, before = list(names), state(picture)
        crowd = fits(picture, names)
        self.assertEqual(names, handed_in)
        self.assertEqual(state(picture), before)
        if can_sit(picture, names):
            self.assertIsNone(crowd)
        else:
            self.assertIs(type(crowd), list)
            self.assertEqual(len(set(crowd)), len(crowd))
            self.assertLessEqual(set(crowd), set(names))
            self.assertLess(len(room_of(picture, crowd)), len(crowd))
        self.assertEqual(fits(picture.copied(), list(names)), crowd)

    def assert_kept(self, picture):
        before = state(picture)
        names = kept(picture)
        self.assertIs(type(names), list)
        self.assertEqual(names, plainly_kept(picture))
        out = left_out(picture)
        self.assertIs(type(out), list)
        self.assertEqual([name for name, holders in out], [name for name in names_of(picture) if name not in names])
        for told in out:
            self.assertIs(type(told), tuple)
            self.assert_holders(picture, names, *told)
        self.assertEqual(state(picture), before)
        self.assertEqual((kept(picture.copied()), left_out(picture.copied())), (names, out))

    def assert_holders(self, picture, names, name, holders):
        self.assertIs(type(holders), list)
        self.assertEqual(len(set(holders)), len(holders))
        order = names_of(picture)
        for holder in holders:
            self.assertIn(holder, names)
            self.assertLess(order.index(holder), order.index(name))
        self.assertEqual(len(room_of(picture, holders + [name])), len(holders))
        self.assertEqual(holders == [], picture.seats_for(name) == [])


class FitsTest(KeepingCase):
    def test_no_names(self):
        for picture in (Picture(3, 3), ordinary_picture(), full_picture()):
            self.assertIsNone(fits(picture, []))

    def test_by_hand(self):
        picture = ordinary_picture()
        for count in range(4):
            for names in itertools.permutations("abc", count):
                self.assertIsNone(fits(picture, list(names)))
        picture.shut_seat("right", 3)
        self.assertEqual(fits(picture, ["b"]), ["b"])
        self.assertEqual(fits(picture, ["c", "b", "a"]), ["b"])
        self.assertIsNone(fits(picture, ["c", "a"]))

    def test_a_crowd_of_two_and_of_three(self):
        points = [("a", 1, 1, "left"), ("b", 2, 2), ("c", 3, 3, "left"), ("d", 4, 4)]
        picture = picture_of_points(4, 4, points, [("left", 1), ("right", 2)])
        self.assertEqual(sorted(fits(picture, ["a", "c"])), ["a", "c"])
        self.assertEqual(sorted(fits(picture, ["d", "c", "b"])), ["b", "c", "d"])
        self.assertIsNone(fits(picture, ["b", "d"]))
        self.assertIsNone(fits(picture, ["b", "a"]))

    def test_a_long_way_of_handing_on(self):
        points = [(name, number, number, "left", number, number + 1) for number, name in enumerate("abcdefghijk", 1)]
        picture = picture_of_points(30, 16, points + [("l", 12, 12, "left", 1, 1)], [])
        for row in range(1, 13):
            picture.open_seat("left", row)
        names = list("abcdefghijkl")
        for order in (names, names[::-1], names[1:] + names[:1], names[::2] + names[1::2]):
            self.assertIsNone(fits(picture, order))
        picture.shut_seat("left", 12)
        for order in (names, names[::-1], names[::2] + names[1::2]):
            self.assertEqual(sorted(fits(picture, order)), names)
        self.assertIsNone(fits(picture, names[1:]))

    def test_all_parts_of_small_pictures_in_any_order(self):
        for picture in chance_pictures("fits", 150):
            names = names_of(picture)
            for count in range(len(names) + 1):
                for part in itertools.permutations(names, count):
                    self.assert_fits(picture, list(part))

    def test_the_askers_own(self):
        picture = Picture(2, 2)
        picture.put("a", 1, 1)
        fits(picture, ["a"]).append("z")
        self.assertEqual(fits(picture, ["a"]), ["a"])
        names = ["a"]
        crowd = fits(picture, names)
        crowd.append("z")
        self.assertEqual(names, ["a"])


class KeptTest(KeepingCase):
    def test_nothing(self):
        for picture in (Picture(1, 1), picture_of_points(3, 3, [], rim_seats(3))):
            self.assertEqual((kept(picture), left_out(picture)), ([], []))

    def test_no_open_seat(self):
        self.assertEqual(kept(full_picture()), [])
        self.assertEqual(left_out(full_picture()), [(name, []) for name in "abcdefghijkl"])

    def test_all_seats_open(self):
        picture = full_picture()
        for seat in rim_seats(16):
            picture.open_seat(*seat)
        self.assertEqual((kept(picture), left_out(picture)), (list("abcdefghijkl"), []))

    def test_by_hand(self):
        picture = picture_of_points(
            9, 9, [("d", 1, 1, "left", 1, 2), ("a", 2, 2, "left", 1, 1), ("c", 3, 3, "left", 1, 2),
                   ("b", 4, 4, "right"), ("e", 5, 5), ("f", 6, 6, "right", 5, 9)],
            [("left", 1), ("left", 2), ("right", 4)])
        self.assertEqual(kept(picture), ["d", "a", "b"])
        out = left_out(picture)
        self.assertEqual([(name, sorted(holders)) for name, holders in out], [
            ("c", ["a", "d"]), ("e", ["a", "b", "d"]), ("f", [])])
        self.assert_kept(picture)

    def test_one_seat_goes_to_the_first_that_came(self):
        for order in itertools.permutations("abc"):
            points = [(name, number, number) for number, name in enumerate(order, 1)]
            picture = picture_of_points(3, 3, points, [("right", 2)])
            self.assertEqual(kept(picture), [order[0]])
            self.assertEqual(left_out(picture), [(order[1], [order[0]]), (order[2], [order[0]])])

    def test_small_pictures(self):
        for picture in chance_pictures("kept", 400):
            self.assert_kept(picture)
        for picture in chance_pictures("more kept", 40, 6, 6):
            self.assert_kept(picture)

    def test_the_askers_own(self):
        picture = picture_of_points(3, 3, [("a", 1, 1), ("b", 2, 2)], [("right", 2)])
        kept(picture).append("z")
        out = left_out(picture)
        out[0][1].append("z")
        out.append(("z", []))
        self.assertEqual((kept(picture), left_out(picture)), (["a"], [("b", ["a"])]))

    def test_mirrored_turned_and_moved(self):
        for number, picture in enumerate(chance_pictures("mirrored", 150)):
            names, out = kept(picture), out_of(picture)
            for other in (picture.mirrored(), picture.turned(), moved(picture, number)):
                self.assertEqual((kept(other), out_of(other)), (names, out))
                self.assert_kept(other)


def moved(picture, seed):
    """The same points, sides, windows and seats, with the points in other cells."""
    chance = random.Random(seed)
    points = picture.points()
    columns = chance.sample(range(1, picture.width + 1), len(points))
    rows = chance.sample(range(1, picture.height + 1), len(points))
    places = [(name, x, y, *rest) for (name, old_x, old_y, *rest), x, y in zip(points, columns, rows)]
    return picture_of_points(picture.width, picture.height, places, picture.seats())


class MostTest(unittest.TestCase):
    """[44]: no more than are kept can have seats at once."""

    def test_no_more_of_any_points(self):
        for picture in chance_pictures("most", 150):
            names = names_of(picture)
            for part in itertools.combinations(names, len(kept(picture)) + 1):
                self.assertFalse(can_sit(picture, list(part)))

    def test_the_room_of_all_left_out_and_their_holders(self):
        for picture in chance_pictures("room", 300):
            out = left_out(picture)
            holders = sorted({holder for name, holders in out for holder in holders})
            self.assertEqual(len(room_of(picture, [name for name, held_by in out] + holders)), len(holders))


class ChangesTest(KeepingCase):
    """[45]: each change, done one at a time."""

    def test_a_point_comes(self):
        for picture in chance_pictures("comes", 150):
            columns = [x for x in range(1, picture.width + 1) if x not in [point[1] for point in picture.points()]]
            rows = [y for y in range(1, picture.height + 1) if y not in [point[2] for point in picture.points()]]
            if columns and rows:
                before = kept(picture)
                name = [name for name in "xyzwv" if name not in names_of(picture)][0]
                for sides in ("left", "right", "both"):
                    other = picture.copied()
                    other.put(name, columns[0], rows[0], sides)
                    self.assertIn(kept(other), (before, before + [name]))
                    self.assert_kept(other)

    def test_a_seat_is_opened_or_shut(self):
        for picture in chance_pictures("seats", 100):
            before = kept(picture)
            for seat in rim_seats(picture.height):
                other = picture.copied()
                if seat in picture.seats():
                    other.shut_seat(*seat)
                    fewer, more = kept(other), before
                else:
                    other.open_seat(*seat)
                    fewer, more = before, kept(other)
                self.assertLessEqual(set(fewer), set(more))
                self.assertLessEqual(len(more) - len(fewer), 1)
                self.assert_kept(other)

    def test_a_point_is_taken_out(self):
        for picture in chance_pictures("taken", 150):
            before = kept(picture)
            for name in names_of(picture):
                other = picture.copied()
                other.take(name)
                rest = [each for each in before if each != name]
                if name in before:
                    self.assertLessEqual(set(rest), set(kept(other)))
                    self.assertLessEqual(len(kept(other)) - len(rest), 1)
                else:
                    self.assertEqual(kept(other), before)
                self.assert_kept(other)


if __name__ == "__main__":
    unittest.main()
