"""[6], [7], [14]: points that are taken out or moved."""

import itertools
import unittest

from rimnotes.errors import NoCell, NoPoint, RimError, SameColumn, SameRow
from rimnotes.pictures import Picture
from things import THINGS, RefusalCase, caught, full_picture, ordinary_picture, state

C, A, B = ("c", 3, 2, "both", 1, 7), ("a", 8, 6, "left", 2, 5), ("b", 5, 4, "right", 3, 3)


class TakeTest(RefusalCase):
    def test_taken_out(self):
        for name, rest in [("c", [A, B]), ("a", [C, B]), ("b", [C, A])]:
            picture = ordinary_picture()
            seats = picture.seats()
            self.assertIsNone(picture.take(name))
            self.assertEqual(picture.points(), rest)
            self.assertEqual(picture.seats(), seats)

    def test_all_taken_out_in_any_order(self):
        for order in itertools.permutations("abc"):
            picture = ordinary_picture()
            for name in order:
                picture.take(name)
                self.assertIs(type(caught(RimError, picture.take, name)), NoPoint)
            self.assertEqual(picture.points(), [])

    def test_put_in_again_comes_last(self):
        picture = ordinary_picture()
        picture.take("c")
        picture.put("c", 3, 2)
        self.assertEqual(picture.points(), [A, B, C])
        picture.take("a")
        picture.put("a", 1, 1)
        self.assertEqual(picture.points(), [B, C, ("a", 1, 1, "both", 1, 7)])

    def test_its_column_and_row_are_free_then(self):
        picture = ordinary_picture()
        picture.take("a")
        picture.put("d", 8, 6)
        self.assertEqual(picture.points(), [C, B, ("d", 8, 6, "both", 1, 7)])

    def test_no_point(self):
        for thing in THINGS + ["d", "z", "left", 1]:
            self.assert_refused(NoPoint, {"name": thing}, Picture.take, thing)
            self.assertIs(type(caught(RimError, Picture(3, 3).take, thing)), NoPoint)


class MoveTest(unittest.TestCase):
    def test_every_cell(self):
        for number, name, own in [(0, "c", C), (1, "a", A), (2, "b", B)]:
            for x in range(1, 10):
                for y in range(1, 8):
                    picture = ordinary_picture()
                    before = state(picture)
                    others = [point for point in (C, A, B) if point != own]
                    column = [point[0] for point in others if point[1] == x]
                    row = [point[0] for point in others if point[2] == y]
                    if column or row:
                        refusal = caught(RimError, picture.move, name, x, y)
                        self.assertIs(type(refusal), SameColumn if column else SameRow)
                        self.assertEqual(refusal.name, (column + row)[0])
                        self.assertEqual(state(picture), before)
                    else:
                        self.assertIsNone(picture.move(name, x, y))
                        wanted = [C, A, B]
                        wanted[number] = (name, x, y) + own[3:]
                        self.assertEqual(state(picture), (9, 7, wanted, before[3]))

    def test_to_its_own_cell_column_and_row(self):
        picture = ordinary_picture()
        before = state(picture)
        self.assertIsNone(picture.move("c", 3, 2))
        self.assertEqual(state(picture), before)
        picture.move("c", 3, 7)
        self.assertEqual(picture.place_of("c"), (3, 7))
        picture.move("c", 9, 7)
        self.assertEqual(picture.place_of("c"), (9, 7))
        self.assertEqual([point[0] for point in picture.points()], ["c", "a", "b"])

    def test_a_point_that_was_moved_is_then_in_the_way_there_and_not_here(self):
        picture = ordinary_picture()
        picture.move("c", 1, 1)
        self.assertIs(type(caught(RimError, picture.put, "d", 1, 2)), SameColumn)
        self.assertIs(type(caught(RimError, picture.put, "d", 3, 1)), SameRow)
        picture.put("d", 3, 2)
        self.assertEqual(picture.place_of("d"), (3, 2))

    def test_done_when_what_lay_there_is_gone(self):
        picture = ordinary_picture()
        self.assertEqual(caught(RimError, picture.move, "b", 3, 1).name, "c")
        self.assertEqual(caught(RimError, picture.move, "b", 1, 2).name, "c")
        picture.take("c")
        picture.move("b", 3, 1)
        picture.move("b", 1, 2)
        self.assertEqual(picture.place_of("b"), (1, 2))
        self.assertIs(type(caught(RimError, picture.move, "b", 8, 2)), SameColumn)
        picture.move("a", 7, 6)
        picture.move("b", 8, 2)
        self.assertEqual(picture.points(), [("a", 7, 6) + A[3:], ("b", 8, 2) + B[3:]])

    def test_in_a_full_picture(self):
        picture = full_picture()
        picture.move("d", 30, 16)
        self.assertEqual([point[0] for point in picture.points()], list("abcdefghijkl"))
        self.assertEqual(picture.place_of("d"), (30, 16))
        picture.move("d", 4, 4)
        self.assertEqual(state(picture), state(full_picture()))

    def test_points_that_change_places_by_a_third_cell(self):
        picture = ordinary_picture()
        picture.move("c", 1, 1)
        picture.move("a", 3, 2)
        picture.move("c", 8, 6)
        self.assertEqual(picture.points(), [("c", 8, 6) + C[3:], ("a", 3, 2) + A[3:], B])


class MoveRefusedTest(RefusalCase):
    def test_no_point(self):
        for thing in THINGS + ["d", "z", "left", 1]:
            self.assert_refused(NoPoint, {"name": thing}, Picture.move, thing, 1, 1)
            self.assert_refused(NoPoint, {"name": thing}, Picture.move, thing, thing, thing)
            self.assert_refused(NoPoint, {"name": thing}, Picture.move, thing, 3, 2)

    def test_no_cell(self):
        for thing in THINGS + [10, 32, "a"]:
            self.assert_refused(NoCell, {"x": thing, "y": 1}, Picture.move, "c", thing, 1)
            self.assert_refused(NoCell, {"x": thing, "y": thing}, Picture.move, "c", thing, thing)
        for thing in THINGS + [8, 9, "a"]:
            self.assert_refused(NoCell, {"x": 1, "y": thing}, Picture.move, "c", 1, thing)

    def test_the_order(self):
        self.assert_refused(NoPoint, {"name": "d"}, Picture.move, "d", 0, 0)
        self.assert_refused(NoPoint, {"name": "d"}, Picture.move, "d", 8, 4)
        self.assert_refused(NoCell, {"x": 8, "y": 8}, Picture.move, "c", 8, 8)
        self.assert_refused(NoCell, {"x": 10, "y": 4}, Picture.move, "c", 10, 4)
        self.assert_refused(SameColumn, {"name": "a"}, Picture.move, "c", 8, 4)
        self.assert_refused(SameColumn, {"name": "b"}, Picture.move, "c", 5, 6)
        self.assert_refused(SameColumn, {"name": "a"}, Picture.move, "c", 8, 6)
        self.assert_refused(SameRow, {"name": "b"}, Picture.move, "c", 3, 4)


if __name__ == "__main__":
    unittest.main()
