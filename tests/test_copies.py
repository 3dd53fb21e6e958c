"""[6], [17]: pictures that are copied, mirrored and turned."""

import unittest

from rimnotes.errors import SameColumn, TooMany
from rimnotes.pictures import Picture
from things import caught, full_picture, ordinary_picture, rim_seats, state

MIRRORED = (9, 7, [
    ("c", 7, 2, "both", 1, 7), ("a", 2, 6, "right", 2, 5), ("b", 5, 4, "left", 3, 3)], [
    ("left", 1), ("left", 3), ("left", 7), ("right", 2), ("right", 3), ("right", 6)])
TURNED = (9, 7, [
    ("c", 3, 6, "both", 1, 7), ("a", 8, 2, "left", 3, 6), ("b", 5, 4, "right", 5, 5)], [
    ("left", 2), ("left", 5), ("left", 6), ("right", 1), ("right", 5), ("right", 7)])


def ways(picture):
    return [picture.copied, picture.mirrored, picture.turned]


def changed(picture):
    picture.take("c")
    picture.put("z", 1, 1, "left", 1, 1)
    picture.move("a", 4, 5)
    picture.shut_seat("left", 3 if ("left", 3) in picture.seats() else 5)
    picture.open_seat("left", 4)


class CopiesTest(unittest.TestCase):
    def test_copied(self):
        picture = ordinary_picture()
        copy = picture.copied()
        self.assertIsNot(copy, picture)
        self.assertIs(type(copy), Picture)
        self.assertEqual(state(copy), state(picture))

    def test_mirrored(self):
        picture = ordinary_picture()
        self.assertIs(type(picture.mirrored()), Picture)
        self.assertEqual(state(picture.mirrored()), MIRRORED)

    def test_turned(self):
        picture = ordinary_picture()
        self.assertIs(type(picture.turned()), Picture)
        self.assertEqual(state(picture.turned()), TURNED)

    def test_twice_is_as_before_and_in_either_order_alike(self):
        for picture in (ordinary_picture(), full_picture(), Picture(1, 1), Picture(30, 16)):
            self.assertEqual(state(picture.mirrored().mirrored()), state(picture))
            self.assertEqual(state(picture.turned().turned()), state(picture))
            self.assertEqual(state(picture.mirrored().turned()), state(picture.turned().mirrored()))

    def test_without_points_or_seats(self):
        for width, height in [(1, 1), (1, 16), (30, 1), (5, 4)]:
            for made in ways(Picture(width, height)):
                self.assertEqual(state(made()), (width, height, [], []))

    def test_every_seat_alone(self):
        for side, row in rim_seats(5):
            picture = Picture(4, 5)
            picture.open_seat(side, row)
            other = "right" if side == "left" else "left"
            self.assertEqual(picture.copied().seats(), [(side, row)])
            self.assertEqual(picture.mirrored().seats(), [(other, row)])
            self.assertEqual(picture.turned().seats(), [(side, 6 - row)])

    def test_every_cell_and_window(self):
        for x in range(1, 5):
            for y in range(1, 4):
                for low in range(1, 4):
                    for high in range(low, 4):
                        picture = Picture(4, 3)
                        picture.put("p", x, y, "left", low, high)
                        self.assertEqual(picture.copied().points(), [("p", x, y, "left", low, high)])
                        self.assertEqual(picture.mirrored().points(), [("p", 5 - x, y, "right", low, high)])
                        self.assertEqual(picture.turned().points(), [("p", x, 4 - y, "left", 4 - high, 4 - low)])

    def test_the_order_of_points_that_were_moved_or_taken_out(self):
        picture = ordinary_picture()
        picture.take("c")
        picture.put("c", 1, 1)
        picture.move("a", 9, 7)
        for made in ways(picture):
            self.assertEqual([point[0] for point in made().points()], ["a", "b", "c"])

    def test_lengths_and_seats_go_along(self):
        picture = ordinary_picture()
        mirrored, turned = picture.mirrored(), picture.turned()
        for name in "abc":
            for side, row in rim_seats(7):
                other = "right" if side == "left" else "left"
                self.assertEqual(mirrored.length(name, other, row), picture.length(name, side, row))
                self.assertEqual(turned.length(name, side, 8 - row), picture.length(name, side, row))
                self.assertIs(mirrored.may(name, other, row), picture.may(name, side, row))
                self.assertIs(turned.may(name, side, 8 - row), picture.may(name, side, row))


class ApartTest(unittest.TestCase):
    def test_changes_to_the_one_leave_the_other(self):
        for number in range(3):
            picture = ordinary_picture()
            made = ways(picture)[number]()
            before = state(made)
            changed(picture)
            self.assertEqual(state(made), before)
            picture = ordinary_picture()
            before = state(picture)
            made = ways(picture)[number]()
            changed(made)
            self.assertNotEqual(state(made), before)
            self.assertEqual(state(picture), before)

    def test_making_them_changes_nothing(self):
        picture = ordinary_picture()
        before = state(picture)
        for made in ways(picture):
            made()
        self.assertEqual(state(picture), before)

    def test_two_copies_have_nothing_in_common(self):
        picture = ordinary_picture()
        for made in ways(picture):
            one, other = made(), made()
            before = state(other)
            changed(one)
            self.assertEqual(state(other), before)

    def test_they_refuse_as_pictures_do(self):
        for made in ways(full_picture()):
            self.assertIs(type(caught(TooMany, made().put, "m", 15, 14)), TooMany)
        refusal = caught(SameColumn, ordinary_picture().mirrored().put, "d", 7, 1)
        self.assertEqual(refusal.name, "c")


if __name__ == "__main__":
    unittest.main()
