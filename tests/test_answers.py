"""[6], [8], [65]: the answer to a picture."""

import random
import unittest

from rimnotes.answers import answer
from rimnotes.errors import RimError
from rimnotes.keeping import kept
from rimnotes.least import least
from rimnotes.meets import meetings, total
from rimnotes.pictures import Picture
from things import (
    all_givings, caught, chance_pictures, exchanges_in, full_picture, ordinary_picture, picture_of_points,
    plain_total, plainly_kept, rim_seats, state)


class AnswerCase(unittest.TestCase):
    def assert_answer(self, picture):
        before = state(picture)
        told = answer(picture)
        self.assertEqual(state(picture), before)
        self.assertIs(type(told), tuple)
        pairs, length = told
        self.assertEqual([type(pairs), type(length)], [list, int])
        self.assertEqual([pair[0] for pair in pairs], kept(picture))
        for pair in pairs:
            self.assertIs(type(pair), tuple)
            self.assertTrue(picture.may(*pair))
        self.assertEqual(len({pair[1:] for pair in pairs}), len(pairs))
        self.assertEqual(length, plain_total(picture, pairs))
        self.assertEqual(length, total(picture, least(picture, kept(picture))[0]))
        self.assertEqual(exchanges_in(picture, pairs), {})
        self.assertEqual(answer(picture.copied()), told)
        return told

    def assert_plain_answer(self, picture):
        """Beside a plain trying of all givings."""
        pairs, length = self.assert_answer(picture)
        names = plainly_kept(picture)
        self.assertEqual([pair[0] for pair in pairs], names)
        givings = list(all_givings(picture, names))
        self.assertIn(pairs, givings)
        self.assertEqual(length, min(plain_total(picture, giving) for giving in givings))


class AnswerTest(AnswerCase):
    def test_nothing_kept(self):
        for picture in (Picture(1, 1), Picture(30, 16), full_picture(), picture_of_points(3, 3, [], rim_seats(3))):
            self.assertEqual(answer(picture), ([], 0))
        picture = picture_of_points(4, 4, [("a", 1, 1, "left", 2, 3)], [("left", 1), ("right", 2)])
        self.assertEqual(answer(picture), ([], 0))

    def test_by_hand(self):
        picture = picture_of_points(6, 4, [("a", 3, 2), ("b", 1, 3), ("c", 5, 4, "left")], [("left", 2), ("right", 2)])
        self.assertEqual(answer(picture), ([("a", "right", 2), ("b", "left", 2)], 6))

    def test_two_of_one_total_are_told_apart(self):
        # In both givings the total is 11, but in one of them the leaders meet.
        for names in ("pq", "qp"):
            places = {"p": (2, 5), "q": (4, 4)}
            points = [(name, *places[name]) for name in names]
            picture = picture_of_points(5, 5, points, [("left", 1), ("left", 3)])
            pairs, length = self.assert_answer(picture)
            self.assertEqual((sorted(pairs), length), ([("p", "left", 3), ("q", "left", 1)], 11))

    def test_a_meeting_stays_where_no_exchange_may_be(self):
        picture = picture_of_points(
            5, 5, [("p", 2, 5, "left", 1, 1), ("q", 4, 4, "left", 3, 3)], [("left", 1), ("left", 3)])
        self.assertEqual(answer(picture), ([("p", "left", 1), ("q", "left", 3)], 11))
        self.assertEqual(meetings(picture, answer(picture)[0]), [("p", "q", (2, 3))])

    def test_the_order_of_coming(self):
        picture = ordinary_picture()
        self.assertEqual([pair[0] for pair in answer(picture)[0]], ["c", "a", "b"])
        picture.take("c")
        picture.put("c", 3, 2)
        self.assertEqual([pair[0] for pair in answer(picture)[0]], ["a", "b", "c"])
        picture.move("a", 9, 7)
        self.assertEqual([pair[0] for pair in answer(picture)[0]], ["a", "b", "c"])

    def test_small_pictures(self):
        for picture in chance_pictures("answers", 400):
            self.assert_plain_answer(picture)
        for picture in chance_pictures("more answers", 60, 5, 6):
            self.assert_plain_answer(picture)

    def test_great_pictures(self):
        for picture in chance_pictures("great answers", 60, 12, 16):
            self.assert_answer(picture)

    def test_twelve_points_with_all_seats_open(self):
        picture = full_picture()
        for seat in rim_seats(16):
            picture.open_seat(*seat)
        pairs, length = self.assert_answer(picture)
        self.assertEqual((length, meetings(picture, pairs)), (sum(range(1, 13)), []))

    def test_behind_changes_of_the_picture(self):
        chance = random.Random("changes")
        for picture in chance_pictures("changes", 60):
            for turn in range(8):
                change(picture, chance)
                self.assert_plain_answer(picture)

    def test_the_askers_own(self):
        picture = ordinary_picture()
        pairs, length = answer(picture)
        told = (list(pairs), length)
        pairs.clear()
        self.assertEqual(answer(picture), told)
        pairs = answer(picture)[0]
        picture.take("c")
        self.assertEqual(pairs, told[0])


def change(picture, chance):
    """Something that is done to a picture by chance, or refused."""
    name, x, y = chance.choice("abcxyz"), chance.randint(1, picture.width), chance.randint(1, picture.height)
    seat = (chance.choice(["left", "right"]), y)
    deeds = [(picture.put, name, x, y), (picture.take, name), (picture.move, name, x, y),
             (picture.open_seat, *seat), (picture.shut_seat, *seat)]
    caught(RimError, *chance.choice(deeds))


class FollowsTest(AnswerCase):
    """[8], [9]: the answers of mirrored and turned pictures."""

    def test_mirrored_and_turned(self):
        for picture in chance_pictures("mirrored answers", 150):
            pairs, length = answer(picture)
            for other in (picture.mirrored(), picture.turned(), picture.turned().mirrored()):
                other_pairs, other_length = self.assert_answer(other)
                self.assertEqual([pair[0] for pair in other_pairs], [pair[0] for pair in pairs])
                self.assertEqual(other_length, length)

    def test_no_two_meet_where_every_point_may_have_every_open_seat(self):
        for picture in chance_pictures("all free", 200, 6, 7):
            free = picture_of_points(picture.width, picture.height, [point[:3] for point in picture.points()],
                                     picture.seats())
            self.assertEqual(meetings(free, self.assert_answer(free)[0]), [])


if __name__ == "__main__":
    unittest.main()
