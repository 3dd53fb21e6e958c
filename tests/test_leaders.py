"""[4], [6], [7], [20]: the cells of a leader."""

import unittest

from rimnotes.errors import NoPoint, NoRow, NoSide
from rimnotes.leaders import cells_of
from rimnotes.pictures import Picture
from things import THINGS, RefusalCase, caught, ordinary_picture, picture_of_points, rim_seats, state, walked


class CellsTest(unittest.TestCase):
    def setUp(self):
        self.picture = picture_of_points(5, 6, [("p", 2, 3)], [("left", 1)])

    def test_up(self):
        self.assertEqual(cells_of(self.picture, "p", "left", 1), [(2, 3), (2, 2), (2, 1), (1, 1), (0, 1)])
        self.assertEqual(
            cells_of(self.picture, "p", "right", 2), [(2, 3), (2, 2), (3, 2), (4, 2), (5, 2), (6, 2)])

    def test_down(self):
        self.assertEqual(cells_of(self.picture, "p", "left", 4), [(2, 3), (2, 4), (1, 4), (0, 4)])
        self.assertEqual(
            cells_of(self.picture, "p", "right", 6),
            [(2, 3), (2, 4), (2, 5), (2, 6), (3, 6), (4, 6), (5, 6), (6, 6)])

    def test_level(self):
        self.assertEqual(cells_of(self.picture, "p", "left", 3), [(2, 3), (1, 3), (0, 3)])
        self.assertEqual(cells_of(self.picture, "p", "right", 3), [(2, 3), (3, 3), (4, 3), (5, 3), (6, 3)])

    def test_the_smallest_frame(self):
        picture = picture_of_points(1, 1, [("p", 1, 1)], [])
        self.assertEqual(cells_of(picture, "p", "left", 1), [(1, 1), (0, 1)])
        self.assertEqual(cells_of(picture, "p", "right", 1), [(1, 1), (2, 1)])

    def test_every_leader_of_small_frames(self):
        for width in range(1, 6):
            for x in range(1, width + 1):
                for y in range(1, 5):
                    picture = picture_of_points(width, 4, [("p", x, y)], [])
                    for side, row in rim_seats(4):
                        cells = cells_of(picture, "p", side, row)
                        self.assertEqual(cells, walked(width, x, y, side, row))
                        self.assertEqual(len(cells), picture.length("p", side, row) + 1)

    def test_corners_of_the_greatest_frame(self):
        for x, y in [(1, 1), (30, 1), (1, 16), (30, 16), (15, 8)]:
            picture = picture_of_points(30, 16, [("p", x, y)], [])
            for side, row in rim_seats(16):
                self.assertEqual(cells_of(picture, "p", side, row), walked(30, x, y, side, row))

    def test_each_cell_is_one_step_from_the_one_ahead(self):
        picture = ordinary_picture()
        for name in "abc":
            for side, row in rim_seats(7):
                cells = cells_of(picture, name, side, row)
                self.assertEqual(cells[0], picture.place_of(name))
                self.assertEqual(cells[-1], (0 if side == "left" else 10, row))
                for (x, y), (next_x, next_y) in zip(cells, cells[1:]):
                    self.assertEqual(abs(x - next_x) + abs(y - next_y), 1)

    def test_a_shut_seat_another_side_and_out_of_the_window(self):
        picture = ordinary_picture()
        self.assertEqual(cells_of(picture, "a", "right", 7), [(8, 6), (8, 7), (9, 7), (10, 7)])
        self.assertEqual(cells_of(picture, "b", "left", 4), [(5, 4), (4, 4), (3, 4), (2, 4), (1, 4), (0, 4)])

    def test_kinds_and_the_askers_own(self):
        cells = cells_of(self.picture, "p", "left", 2)
        self.assertIs(type(cells), list)
        for cell in cells:
            self.assertIs(type(cell), tuple)
            self.assertEqual([type(number) for number in cell], [int, int])
        cells.append((9, 9))
        cells[0] = None
        self.assertEqual(cells_of(self.picture, "p", "left", 2), [(2, 3), (2, 2), (1, 2), (0, 2)])

    def test_the_picture_is_only_read(self):
        picture = ordinary_picture()
        before = state(picture)
        for name in "abc":
            for side, row in rim_seats(7):
                cells_of(picture, name, side, row)
        self.assertEqual(state(picture), before)

    def test_after_a_move(self):
        self.picture.move("p", 5, 6)
        self.assertEqual(cells_of(self.picture, "p", "right", 5), [(5, 6), (5, 5), (6, 5)])


class CellsRefusedTest(RefusalCase):
    def test_no_point(self):
        for thing in THINGS + ["d", "z", "left", 1]:
            for side, row in [("left", 1), ("left", 0), ("up", 1), ("up", 0), (thing, thing)]:
                self.assert_refused(NoPoint, {"name": thing}, cells_of, thing, side, row)
        self.assertEqual(caught(NoPoint, cells_of, Picture(3, 3), "a", "left", 1).name, "a")

    def test_no_side(self):
        for thing in THINGS + ["both", "LEFT", "right ", "c", 1]:
            for row in (1, 0, 8, thing):
                self.assert_refused(NoSide, {"side": thing}, cells_of, "c", thing, row)

    def test_no_row(self):
        for thing in THINGS + [8, 16, "left", "3"]:
            for side in ("left", "right"):
                self.assert_refused(NoRow, {"row": thing}, cells_of, "a", side, thing)


if __name__ == "__main__":
    unittest.main()
