"""[8], [9]: what is promised over the whole program, from lines to answers, drawings and back."""

import itertools
import random
import unittest

from rimnotes.answers import answer
from rimnotes.columns import column_places
from rimnotes.desk import Desk
from rimnotes.drawings import drawn, seen
from rimnotes.errors import TooTall
from rimnotes.exchanges import uncrossed
from rimnotes.hands import Hand
from rimnotes.keeping import fits, kept, left_out
from rimnotes.least import fault, least
from rimnotes.meets import is_giving, meetings, total
from rimnotes.reading import picture_of
from rimnotes.spread import is_spread, spread
from rimnotes.writing import lines_of
from things import (
    all_givings, can_sit, caught, chance_pictures, crowded_pictures, exchanges_in, mirrored_pairs, names_of,
    one_sided_pictures, picture_of_points, plain_total, plainly_kept, rim_seats, room_of, state, turned_pairs)


def pictures(seed):
    yield from chance_pictures(seed, 80)
    yield from crowded_pictures(seed, 20)
    yield from one_sided_pictures(seed, 20)


def desk_with(lines):
    desk = Desk()
    for line in lines:
        desk.say(line)
    return desk


class KeptTest(unittest.TestCase):
    def test_kept_and_left_out(self):
        for picture in pictures("kept in all"):
            names = Hand(picture).kept()
            self.assertEqual(names, plainly_kept(picture))
            for part in itertools.combinations(names_of(picture), len(names) + 1):
                self.assertFalse(can_sit(picture, list(part)))
                self.assertIsNotNone(fits(picture, list(part)))
            order = names_of(picture)
            for name, holders in Hand(picture).left_out():
                self.assertLessEqual(set(holders), set(names) & set(order[:order.index(name)]))
                self.assertEqual(len(room_of(picture, holders + [name])), len(holders))
                self.assertEqual(holders == [], picture.seats_for(name) == [])

    def test_where_a_point_lies_makes_no_difference(self):
        chance = random.Random("where it lies")
        for picture in pictures("where it lies"):
            hand = Hand(picture)
            for name in names_of(picture):
                other = Hand(picture)
                columns = {point[1] for point in picture.points() if point[0] != name}
                rows = {point[2] for point in picture.points() if point[0] != name}
                other.shift(name, chance.choice([x for x in range(1, picture.width + 1) if x not in columns]),
                            chance.choice([y for y in range(1, picture.height + 1) if y not in rows]))
                self.assertEqual((other.kept(), other.left_out()), (hand.kept(), hand.left_out()))

    def test_opening_and_shutting(self):
        for picture in pictures("opening and shutting"):
            before = kept(picture)
            for seat in rim_seats(picture.height):
                hand = Hand(picture)
                if seat in picture.seats():
                    hand.bar(*seat)
                    fewer, more = hand.kept(), before
                else:
                    hand.unbar(*seat)
                    fewer, more = before, hand.kept()
                self.assertLessEqual(set(fewer), set(more))
                self.assertLessEqual(len(more) - len(fewer), 1)


class LeastTest(unittest.TestCase):
    def test_the_prices_show_the_answer_to_be_least(self):
        for picture in pictures("least in all"):
            names, (pairs, length) = kept(picture), answer(picture)
            least_pairs, own, rent = least(picture, names)
            # Prices that show one giving to be least show every giving of the same total to be so.
            self.assertIsNone(fault(picture, names, pairs, own, rent))
            self.assertEqual(length, sum(own.values()) + sum(rent.values()))
            self.assertEqual(length, min(plain_total(picture, giving) for giving in all_givings(picture, names)))

    def test_the_prices_that_a_desk_tells(self):
        for picture in pictures("prices at a desk"):
            desk = desk_with(lines_of(picture))
            names, hand = kept(picture), Hand(picture)
            own = {name: int(desk.say(f"price {name}")) for name in names}
            rent = {seat: int(desk.say("price {} {}".format(*seat))) for seat in picture.seats()}
            self.assertIsNone(fault(picture, names, hand.pairs(), own, rent))
            self.assertEqual(int(desk.say("total")), sum(own.values()) + sum(rent.values()))


class ApartTest(unittest.TestCase):
    def test_behind_an_answer_two_meet_only_where_no_exchange_may_be(self):
        for picture in pictures("apart in all"):
            pairs = Hand(picture).pairs()
            self.assertEqual(exchanges_in(picture, pairs), {})
            seats = {pair[0]: pair[1:] for pair in pairs}
            for name, other, cell in meetings(picture, pairs):
                self.assertFalse(picture.may(name, *seats[other]) and picture.may(other, *seats[name]))
            self.assertEqual(uncrossed(picture, pairs), (pairs, []))

    def test_where_every_point_may_have_every_open_seat_no_two_meet(self):
        for picture in pictures("all open"):
            free = picture_of_points(picture.width, picture.height, [point[:3] for point in picture.points()],
                                     picture.seats())
            self.assertEqual(meetings(free, Hand(free).pairs()), [])


class SpreadTest(unittest.TestCase):
    def test_the_columns_of_answers_have_the_least_stray(self):
        chance = random.Random("columns of answers")
        for picture in pictures("columns of answers"):
            pairs = Hand(picture).pairs()
            heights = {pair[0]: chance.randint(1, 2) for pair in pairs}
            told = caught(TooTall, column_places, picture, pairs, heights)
            if isinstance(told, TooTall):
                continue
            firsts = {name: row for name, side, row, height in column_places(picture, pairs, heights)}
            for rim in ("left", "right"):
                order = sorted((row, name) for name, side, row in pairs if side == rim)
                notes = [(heights[name], 1, picture.height, row) for row, name in order]
                places = [firsts[name] for row, name in order]
                self.assertTrue(is_spread(notes, places, spread(notes)[1]))


class LinesAndDrawingsTest(unittest.TestCase):
    def test_lines_and_back(self):
        for picture in pictures("lines and back"):
            lines = lines_of(picture)
            back = picture_of(lines)
            self.assertEqual(state(back), state(picture))
            self.assertEqual(answer(back), answer(picture))
            self.assertEqual((kept(back), left_out(back)), (kept(picture), left_out(picture)))
            self.assertEqual(desk_with(lines).say("lines").split("\n"), lines)

    def test_a_desk_beside_a_hand_made_of_the_same_lines(self):
        for picture in pictures("desk beside hand"):
            desk, hand = desk_with(lines_of(picture)), Hand(picture)
            self.assertEqual(desk.say("kept"), " ".join(hand.kept()) or "-")
            self.assertEqual(desk.say("total"), str(hand.total()))
            rows = desk.say("draw").split("\n")
            back, pairs = seen(rows)
            self.assertTrue(is_giving(picture, sorted(hand.kept()), pairs))
            self.assertEqual(total(picture, pairs), hand.total())
            self.assertEqual(exchanges_in(picture, pairs), {})

    def test_drawings_and_back(self):
        for picture in pictures("drawings and back"):
            pairs = Hand(picture).pairs()
            rows = drawn(picture, pairs)
            back, back_pairs = seen(rows)
            self.assertEqual(back_pairs, sorted(pairs))
            self.assertEqual(back.seats(), picture.seats())
            self.assertEqual([point[:3] for point in back.points()], sorted(point[:3] for point in picture.points()))
            self.assertEqual(drawn(back, back_pairs), rows)
            self.assertEqual(drawn(picture_of(lines_of(back)), pairs), rows)
            self.assertEqual(total(back, back_pairs), total(picture, pairs))

    def test_a_picture_read_from_a_drawing_is_as_free_as_any(self):
        for picture in pictures("free as any"):
            back, pairs = seen(drawn(picture, Hand(picture).pairs()))
            hand = Hand(back)
            for seat in back.seats()[:1]:
                hand.bar(*seat)
            anew = Hand(hand.picture_now())
            self.assertEqual((hand.kept(), hand.total()), (anew.kept(), anew.total()))


class MirroredTest(unittest.TestCase):
    def test_mirrored_and_turned_keep_the_same_points_with_the_same_total(self):
        for picture in pictures("mirrored in all"):
            hand = Hand(picture)
            for other in (picture.mirrored(), picture.turned(), picture.mirrored().turned()):
                made = Hand(other)
                self.assertEqual((made.kept(), made.total()), (hand.kept(), hand.total()))
                self.assertEqual([name for name, holders in made.left_out()],
                                 [name for name, holders in hand.left_out()])

    def test_mirrored_and_turned_pairs_are_answers_of_the_same_total(self):
        for picture in pictures("mirrored pairs"):
            hand = Hand(picture)
            for other, pairs in [(picture.mirrored(), mirrored_pairs(hand.pairs())),
                                 (picture.turned(), turned_pairs(hand.pairs(), picture.height))]:
                self.assertTrue(is_giving(other, hand.kept(), pairs))
                self.assertEqual((total(other, pairs), exchanges_in(other, pairs)), (hand.total(), {}))

    def test_lines_of_mirrored_and_turned_pictures(self):
        for picture in pictures("mirrored lines"):
            for other in (picture.mirrored(), picture.turned()):
                desk, other_desk = desk_with(lines_of(picture)), desk_with(lines_of(other))
                for line in ("kept", "total"):
                    self.assertEqual(other_desk.say(line), desk.say(line))


class EqualTest(unittest.TestCase):
    """[6]: equal pictures are answered alike, in whatever order their seats were opened."""

    def test_seats_opened_in_another_order(self):
        chance = random.Random("another order")
        for picture in pictures("another order"):
            seats = picture.seats()
            chance.shuffle(seats)
            other = picture_of_points(picture.width, picture.height, picture.points(), seats)
            for point in other.points():
                other.move(*point[:3])
            for ask in (answer, kept, left_out, lines_of, lambda each: least(each, kept(each)),
                        lambda each: drawn(each, answer(each)[0])):
                self.assertEqual(ask(other), ask(picture))
            self.assertEqual(Hand(other).pairs(), Hand(picture).pairs())


if __name__ == "__main__":
    unittest.main()
