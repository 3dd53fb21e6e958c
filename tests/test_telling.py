"""[3], [4], [6], [7], [16]: what a picture tells of its points and seats."""

import unittest

from rimnotes.errors import NoPoint, NoRow, NoSide
from rimnotes.pictures import Picture
from things import THINGS, RefusalCase, caught, ordinary_picture, picture_of_points, rim_seats, state


class TellingTest(unittest.TestCase):
    def test_points_seats_and_places(self):
        picture = ordinary_picture()
        self.assertEqual(picture.points(), [
            ("c", 3, 2, "both", 1, 7), ("a", 8, 6, "left", 2, 5), ("b", 5, 4, "right", 3, 3)])
        self.assertEqual(picture.seats(), [
            ("left", 2), ("left", 3), ("left", 6), ("right", 1), ("right", 3), ("right", 7)])
        self.assertEqual([picture.place_of(name) for name in "abc"], [(8, 6), (5, 4), (3, 2)])

    def test_kinds(self):
        picture = ordinary_picture()
        self.assertIs(type(picture.points()), list)
        self.assertIs(type(picture.seats()), list)
        self.assertIs(type(picture.seats_for("a")), list)
        for told in picture.points() + picture.seats() + picture.seats_for("a") + [picture.place_of("a")]:
            self.assertIs(type(told), tuple)

    def test_may_and_seats_for(self):
        picture = ordinary_picture()
        wanted = {"c": picture.seats(), "a": [("left", 2), ("left", 3)], "b": [("right", 3)]}
        for name, seats in wanted.items():
            self.assertEqual(picture.seats_for(name), seats)
            for seat in rim_seats(7):
                self.assertIs(picture.may(name, *seat), seat in seats)

    def test_may_in_every_window_with_every_sides(self):
        opened = [("left", 1), ("left", 3), ("left", 4), ("right", 2), ("right", 4)]
        for sides in ("left", "right", "both"):
            for low in range(1, 5):
                for high in range(low, 5):
                    picture = picture_of_points(3, 4, [("p", 2, 3, sides, low, high)], opened)
                    wanted = [seat for seat in opened if sides in (seat[0], "both") and low <= seat[1] <= high]
                    self.assertEqual(picture.seats_for("p"), wanted)
                    for seat in rim_seats(4):
                        self.assertIs(picture.may("p", *seat), seat in wanted)

    def test_no_seats_for_a_point(self):
        picture = Picture(3, 4)
        picture.put("p", 1, 1, "left", 2, 3)
        self.assertEqual(picture.seats_for("p"), [])
        for seat in [("left", 1), ("left", 4), ("right", 2), ("right", 3)]:
            picture.open_seat(*seat)
        self.assertEqual(picture.seats_for("p"), [])
        picture.open_seat("left", 3)
        self.assertEqual(picture.seats_for("p"), [("left", 3)])
        picture.shut_seat("left", 3)
        self.assertEqual(picture.seats_for("p"), [])

    def test_lengths_by_hand(self):
        picture = ordinary_picture()
        # c lies in column 3, row 2 of a frame of 9 columns: 3 columns to the left rim, 7 to the right one.
        self.assertEqual([picture.length("c", "left", row) for row in range(1, 8)], [4, 3, 4, 5, 6, 7, 8])
        self.assertEqual([picture.length("c", "right", row) for row in range(1, 8)], [8, 7, 8, 9, 10, 11, 12])
        # a may have no seat on the right, b none on the left: lengths are told all the same.
        self.assertEqual([picture.length("a", "right", row) for row in range(1, 8)], [7, 6, 5, 4, 3, 2, 3])
        self.assertEqual([picture.length("b", "left", row) for row in range(1, 8)], [8, 7, 6, 5, 6, 7, 8])

    def test_lengths_in_every_cell(self):
        for width in range(1, 7):
            for x in range(1, width + 1):
                for y in range(1, 5):
                    picture = picture_of_points(width, 4, [("p", x, y)], [("left", 2)])
                    for row in range(1, 5):
                        self.assertEqual(picture.length("p", "left", row), x + abs(y - row))
                        self.assertEqual(picture.length("p", "right", row), width + 1 - x + abs(y - row))

    def test_told_after_changes(self):
        picture = ordinary_picture()
        picture.move("c", 9, 7)
        self.assertEqual(picture.place_of("c"), (9, 7))
        self.assertEqual(picture.length("c", "right", 7), 1)
        picture.shut_seat("left", 2)
        self.assertIs(picture.may("a", "left", 2), False)
        self.assertEqual(picture.seats_for("a"), [("left", 3)])
        picture.open_seat("left", 4)
        self.assertEqual(picture.seats_for("a"), [("left", 3), ("left", 4)])
        picture.take("a")
        for ask in (picture.place_of, picture.seats_for):
            self.assertEqual(caught(NoPoint, ask, "a").name, "a")


class AskersOwnTest(unittest.TestCase):
    def test_what_is_told_may_be_changed(self):
        picture = ordinary_picture()
        before = state(picture)
        seats_for = picture.seats_for("c")
        for ask in (picture.points, picture.seats, lambda: picture.seats_for("c")):
            told = ask()
            told.append("more")
            told[0] = None
            ask().clear()
            ask().reverse()
        self.assertEqual(state(picture), before)
        self.assertEqual(picture.seats_for("c"), seats_for)

    def test_what_was_told_stays_when_the_picture_changes(self):
        picture = ordinary_picture()
        points, seats, seats_for = picture.points(), picture.seats(), picture.seats_for("c")
        kept = (list(points), list(seats), list(seats_for))
        picture.take("c")
        picture.put("z", 1, 1)
        picture.shut_seat("left", 2)
        picture.open_seat("left", 1)
        self.assertEqual((points, seats, seats_for), kept)

    def test_asking_changes_nothing(self):
        picture = ordinary_picture()
        before = state(picture)
        for name in "abc":
            picture.place_of(name)
            picture.seats_for(name)
            for seat in rim_seats(7):
                picture.may(name, *seat)
                picture.length(name, *seat)
        self.assertEqual(state(picture), before)


class TellingRefusedTest(RefusalCase):
    def test_no_point(self):
        for thing in THINGS + ["d", "z", "left", 1]:
            for method in (Picture.place_of, Picture.seats_for):
                self.assert_refused(NoPoint, {"name": thing}, method, thing)
            for method in (Picture.may, Picture.length):
                for side, row in [("left", 1), ("left", 0), ("up", 1), ("up", 0), (thing, thing)]:
                    self.assert_refused(NoPoint, {"name": thing}, method, thing, side, row)

    def test_no_point_where_there_is_nothing(self):
        picture = Picture(3, 3)
        for method in (picture.place_of, picture.seats_for):
            self.assertEqual(caught(NoPoint, method, "a").name, "a")

    def test_no_side(self):
        for method in (Picture.may, Picture.length):
            for thing in THINGS + ["both", "LEFT", "right ", "c", 1]:
                for row in (1, 0, 8, thing):
                    self.assert_refused(NoSide, {"side": thing}, method, "c", thing, row)

    def test_no_row(self):
        for method in (Picture.may, Picture.length):
            for thing in THINGS + [8, 16, "left", "3"]:
                for side in ("left", "right"):
                    self.assert_refused(NoRow, {"row": thing}, method, "a", side, thing)


if __name__ == "__main__":
    unittest.main()
