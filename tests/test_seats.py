"""[6], [7], [15]: seats that are opened and shut."""

import itertools
import unittest

from rimnotes.errors import NoRow, NoSeat, NoSide, OldSeat, RimError
from rimnotes.pictures import Picture
from things import THINGS, RefusalCase, caught, ordinary_picture, rim_seats


class SeatsTest(unittest.TestCase):
    def test_every_seat_of_every_height(self):
        for height in range(1, 17):
            picture = Picture(4, height)
            opened = []
            for seat in reversed(rim_seats(height)):
                self.assertIsNone(picture.open_seat(*seat))
                opened.append(seat)
                self.assertEqual(picture.seats(), [each for each in rim_seats(height) if each in opened])
            for seat in rim_seats(height)[::2] + rim_seats(height)[1::2]:
                self.assertIsNone(picture.shut_seat(*seat))
                opened.remove(seat)
                self.assertEqual(picture.seats(), [each for each in rim_seats(height) if each in opened])
            self.assertEqual(picture.seats(), [])

    def test_opened_in_any_order(self):
        wanted = [("left", 2), ("left", 10), ("right", 1), ("right", 9)]
        for order in itertools.permutations(wanted):
            picture = Picture(3, 16)
            for seat in order:
                picture.open_seat(*seat)
            self.assertEqual(picture.seats(), wanted)

    def test_one_side_is_not_the_other(self):
        picture = Picture(3, 3)
        picture.open_seat("left", 2)
        refusal = caught(RimError, picture.shut_seat, "right", 2)
        self.assertEqual((type(refusal), refusal.side, refusal.row), (NoSeat, "right", 2))
        picture.open_seat("right", 2)
        picture.shut_seat("left", 2)
        self.assertEqual(picture.seats(), [("right", 2)])

    def test_opened_shut_and_opened_again(self):
        picture = Picture(3, 3)
        for turn in range(3):
            picture.open_seat("right", 3)
            refusal = caught(RimError, picture.open_seat, "right", 3)
            self.assertEqual((type(refusal), refusal.side, refusal.row), (OldSeat, "right", 3))
            self.assertEqual(picture.seats(), [("right", 3)])
            picture.shut_seat("right", 3)
            refusal = caught(RimError, picture.shut_seat, "right", 3)
            self.assertEqual((type(refusal), refusal.side, refusal.row), (NoSeat, "right", 3))
            self.assertEqual(picture.seats(), [])

    def test_points_stay_where_they_are(self):
        picture = ordinary_picture()
        points = picture.points()
        for seat in picture.seats():
            picture.shut_seat(*seat)
        self.assertEqual(picture.points(), points)
        for seat in rim_seats(7):
            picture.open_seat(*seat)
        self.assertEqual(picture.points(), points)

    def test_seats_stay_as_they_are_whatever_points_do(self):
        picture = ordinary_picture()
        seats = picture.seats()
        picture.move("c", 1, 1)
        picture.take("a")
        picture.put("d", 2, 2)
        self.assertEqual(picture.seats(), seats)


class SeatsRefusedTest(RefusalCase):
    def test_things_as_side(self):
        for method in (Picture.open_seat, Picture.shut_seat):
            for thing in THINGS + ["both", "LEFT", "right ", "l", "a", 1]:
                for row in (1, 3, 0, 8, "1", thing):
                    self.assert_refused(NoSide, {"side": thing}, method, thing, row)

    def test_things_as_row(self):
        for method in (Picture.open_seat, Picture.shut_seat):
            for thing in THINGS + [8, 16, "left", "3"]:
                for side in ("left", "right"):
                    self.assert_refused(NoRow, {"row": thing}, method, side, thing)

    def test_open_and_shut(self):
        for seat in rim_seats(7):
            fields = {"side": seat[0], "row": seat[1]}
            if seat in ordinary_picture().seats():
                self.assert_refused(OldSeat, fields, Picture.open_seat, *seat)
            else:
                self.assert_refused(NoSeat, fields, Picture.shut_seat, *seat)

    def test_a_truth_is_no_row_though_row_1_is_open(self):
        picture = Picture(2, 2)
        picture.open_seat("left", 1)
        for method in (picture.open_seat, picture.shut_seat):
            refusal = caught(RimError, method, "left", True)
            self.assertIs(type(refusal), NoRow)
            self.assertIs(refusal.row, True)
        self.assertEqual(picture.seats(), [("left", 1)])


if __name__ == "__main__":
    unittest.main()
