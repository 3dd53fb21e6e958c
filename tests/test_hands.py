"""[6] to [9], [90] to [94]: a hand, its answer, its deeds and what they answer."""

import random
import unittest

from rimnotes.answers import answer
from rimnotes.errors import (
    NoCell, NoName, NoPoint, NoRow, NoSeat, NoSide, NoSides, NoWindow, OldPoint, OldSeat, RimError, SameColumn, SameRow,
    TooMany)
from rimnotes.hands import Hand
from rimnotes.keeping import kept, left_out
from rimnotes.pictures import Picture
from things import (
    THINGS, all_givings, caught, chance_pictures, exchanges_in, full_picture, names_of, one_sided_pictures,
    ordinary_picture, picture_of_points, plain_total, plainly_kept, rim_seats, state)

DEEDS = {"come": "put", "go": "take", "shift": "move", "unbar": "open_seat", "bar": "shut_seat"}


def hand_state(hand):
    return (state(hand.picture_now()), hand.kept(), hand.left_out(), hand.pairs(), hand.total())


def plainly_an_answer(picture, pairs):
    """Each of the four things that [92] asks, by a plain trying of all givings."""
    names = plainly_kept(picture)
    if [pair[0] for pair in pairs] != names or not all(picture.may(*pair) for pair in pairs):
        return False
    least_total = min(plain_total(picture, giving) for giving in all_givings(picture, names))
    return plain_total(picture, pairs) == least_total and exchanges_in(picture, pairs) == {}


def chance_deed(picture, chance):
    """A deed by chance, good or not, for a picture as it is."""
    names = names_of(picture)
    known = chance.choice(names) if names and chance.randint(0, 5) else chance.choice("abcxyz")
    x, y = chance.randint(1, picture.width), chance.randint(1, picture.height)
    seat = (chance.choice(["left", "right"]), y)
    low = chance.randint(1, picture.height)
    rest = chance.choice([(), ("left",), ("right",), ("both", low), ("both", low, chance.randint(low, picture.height))])
    return chance.choice([
        ("come", chance.choice("abcdefxyz"), x, y, *rest), ("go", known), ("shift", known, x, y),
        ("shift", known, x, y), ("unbar", *seat), ("bar", *seat), ("unbar", *seat)])


class HandCase(unittest.TestCase):
    def assert_hand(self, hand, picture):
        """That a hand keeps this picture and tells an answer to it."""
        self.assertEqual(state(hand.picture_now()), state(picture))
        self.assertIs(type(hand.picture_now()), Picture)
        self.assertEqual((hand.kept(), hand.left_out()), (kept(picture), left_out(picture)))
        pairs, length = hand.pairs(), hand.total()
        self.assertEqual([type(pairs), type(length)], [list, int])
        self.assertEqual([type(pair) for pair in pairs], [tuple] * len(pairs))
        self.assertEqual([pair[0] for pair in pairs], kept(picture))
        self.assertEqual(len({pair[1:] for pair in pairs}), len(pairs))
        self.assertEqual(all(picture.may(*pair) for pair in pairs), True)
        self.assertEqual((length, plain_total(picture, pairs)), (answer(picture)[1],) * 2)
        self.assertEqual(exchanges_in(picture, pairs), {})

    def assert_deed(self, hand, deed, *handed_in):
        """That a deed is done or refused as the picture does it, and answered so; True where it is done."""
        before, picture = hand_state(hand), hand.picture_now()
        refusal = caught(RimError, getattr(picture, DEEDS[deed]), *handed_in)
        told = caught(RimError, getattr(hand, deed), *handed_in)
        if isinstance(refusal, RimError):
            self.assertIs(type(told), type(refusal))
            self.assertEqual(vars(told), vars(refusal))
            self.assertEqual(hand_state(hand), before)
            return False
        self.assertFalse(isinstance(told, RimError), told)
        self.assertEqual(state(hand.picture_now()), state(picture))
        return True

    def assert_answered(self, hand, before, deed, *handed_in):
        """A deed that is good: what it answers, beside the pairs of before and of now."""
        told = getattr(hand, deed)(*handed_in)
        self.assertIs(type(told), tuple)
        self.assertEqual([type(part) for part in told], [list, int, list])
        old_seats = {pair[0]: pair[1:] for pair in before}
        moved = [pair[0] for pair in hand.pairs() if old_seats.get(pair[0], pair[1:]) != pair[1:]]
        order = names_of(hand.picture_now())
        self.assertEqual(told, ([name for name in order if name not in hand.kept()], hand.total(),
                                sorted(moved, key=order.index)))
        return told


class MadeTest(HandCase):
    def test_an_empty_picture(self):
        hand = Hand(Picture(3, 2))
        self.assertEqual(hand_state(hand), ((3, 2, [], []), [], [], [], 0))

    def test_by_hand(self):
        picture = picture_of_points(6, 4, [("a", 3, 2), ("b", 1, 3), ("c", 5, 4, "left")], [("left", 2), ("right", 2)])
        hand = Hand(picture)
        self.assertEqual(hand.kept(), ["a", "b"])
        self.assertEqual(hand.pairs(), [("a", "right", 2), ("b", "left", 2)])
        self.assertEqual(hand.total(), 6)
        self.assertEqual([(name, sorted(holders)) for name, holders in hand.left_out()], [("c", ["a", "b"])])
        self.assertEqual(state(hand.picture_now()), state(picture))

    def test_many_pictures(self):
        for picture in [*chance_pictures("hands", 200), *chance_pictures("great hands", 30, 12, 16), full_picture()]:
            before = state(picture)
            hand = Hand(picture)
            self.assert_hand(hand, picture)
            self.assertEqual(hand_state(Hand(picture.copied())), hand_state(hand))
            self.assertEqual(state(picture), before)

    def test_the_pairs_are_an_answer(self):
        for picture in chance_pictures("plain hands", 150):
            self.assertTrue(plainly_an_answer(picture, Hand(picture).pairs()))


class DeedsTest(HandCase):
    def setUp(self):
        self.hand = Hand(picture_of_points(6, 5, [("a", 3, 2), ("b", 1, 3)], [("left", 2), ("right", 2)]))

    def test_come(self):
        self.assertEqual(self.hand.come("c", 5, 5), (["c"], 6, []))
        self.assertEqual(self.hand.come("d", 2, 1, "left"), (["c", "d"], 6, []))
        self.assertEqual(self.hand.come("e", 6, 4, "both", 3), (["c", "d", "e"], 6, []))
        self.assertEqual(self.hand.picture_now().points(), [
            ("a", 3, 2, "both", 1, 5), ("b", 1, 3, "both", 1, 5), ("c", 5, 5, "both", 1, 5), ("d", 2, 1, "left", 1, 5),
            ("e", 6, 4, "both", 3, 5)])

    def test_the_window_of_one_that_comes(self):
        hand = Hand(Picture(4, 6))
        hand.come("a", 1, 1, "right", 2, None)
        hand.come("b", 2, 2, "left", 3, 4)
        self.assertEqual(hand.picture_now().points(), [("a", 1, 1, "right", 2, 6), ("b", 2, 2, "left", 3, 4)])
        self.assertEqual(caught(NoWindow, hand.come, "c", 3, 3, "both", 7, None).high, 6)

    def test_go(self):
        self.assertEqual(self.hand.go("b"), ([], 3, ["a"]))
        self.assertEqual(self.hand.pairs(), [("a", "left", 2)])
        self.assertEqual(self.hand.go("a"), ([], 0, []))
        self.assertEqual(self.hand.pairs(), [])

    def test_one_that_goes_and_comes_again_is_the_last(self):
        self.hand.go("a")
        self.assertEqual(self.hand.come("a", 3, 2), ([], 6, []))
        self.assertEqual(self.hand.pairs(), [("b", "left", 2), ("a", "right", 2)])

    def test_shift(self):
        self.assertEqual(self.hand.shift("a", 6, 2), ([], 3, []))
        self.assertEqual(self.hand.shift("b", 5, 3), ([], 7, []))
        self.assertEqual(self.hand.shift("a", 1, 1), ([], 5, ["a", "b"]))
        self.assertEqual(self.hand.pairs(), [("a", "left", 2), ("b", "right", 2)])
        self.assertEqual(self.hand.shift("a", 1, 1), ([], 5, []))

    def test_unbar_and_bar(self):
        self.assertEqual(self.hand.unbar("left", 3), ([], 4, ["a", "b"]))
        self.assertEqual(self.hand.pairs(), [("a", "left", 2), ("b", "left", 3)])
        self.assertEqual(self.hand.bar("right", 2), ([], 4, []))
        self.assertEqual(self.hand.bar("left", 3), (["b"], 3, []))
        self.assertEqual(self.hand.bar("left", 2), (["a", "b"], 0, []))
        self.assertEqual(self.hand.unbar("right", 1), (["b"], 5, []))

    def test_one_who_is_let_in_has_not_moved(self):
        hand = Hand(picture_of_points(4, 4, [("a", 1, 1), ("b", 2, 2)], [("left", 2)]))
        self.assertEqual((hand.kept(), hand.pairs()), (["a"], [("a", "left", 2)]))
        self.assertEqual(hand.unbar("left", 1), ([], 3, ["a"]))
        self.assertEqual(hand.pairs(), [("a", "left", 1), ("b", "left", 2)])

    def test_good_deeds_are_the_pictures(self):
        for deed in [("come", "c", 2, 1, "left", 1, 2), ("go", "a"), ("shift", "b", 6, 5), ("unbar", "left", 5),
                     ("bar", "left", 2), ("shift", "a", 3, 2), ("come", "z", 6, 5)]:
            hand = Hand(self.hand.picture_now())
            self.assertTrue(self.assert_deed(hand, *deed))


class RefusedTest(HandCase):
    def setUp(self):
        self.hand = Hand(ordinary_picture())

    def assert_refused(self, error, fields, deed, *handed_in):
        before = hand_state(self.hand)
        refusal = caught(RimError, getattr(self.hand, deed), *handed_in)
        self.assertIs(type(refusal), error)
        self.assertEqual(sorted(vars(refusal)), sorted(fields))
        for field, value in fields.items():
            self.assertIs(getattr(refusal, field), value)
        self.assertEqual(hand_state(self.hand), before)

    def test_come(self):
        for thing in THINGS + ["up"]:
            self.assert_refused(NoName, {"name": thing}, "come", thing, 1, 1)
            self.assert_refused(NoName, {"name": thing}, "come", thing, thing, thing, thing, thing, thing)
            self.assert_refused(NoCell, {"x": thing, "y": 1}, "come", "d", thing, 1)
            self.assert_refused(NoCell, {"x": 1, "y": thing}, "come", "d", 1, thing)
            self.assert_refused(NoSides, {"sides": thing}, "come", "d", 1, 1, thing)
            self.assert_refused(NoWindow, {"low": thing, "high": 7}, "come", "d", 1, 1, "both", thing)
            if thing is not None:
                self.assert_refused(NoWindow, {"low": 1, "high": thing}, "come", "d", 1, 1, "both", 1, thing)
        self.assert_refused(OldPoint, {"name": "a"}, "come", "a", 1, 1)
        self.assert_refused(SameColumn, {"name": "c"}, "come", "d", 3, 6)
        self.assert_refused(SameRow, {"name": "a"}, "come", "d", 4, 6)
        self.hand = Hand(full_picture())
        self.assert_refused(TooMany, {}, "come", "m", 1, 1)

    def test_go_and_shift(self):
        for thing in THINGS + ["d", "left"]:
            self.assert_refused(NoPoint, {"name": thing}, "go", thing)
            self.assert_refused(NoPoint, {"name": thing}, "shift", thing, thing, thing)
            self.assert_refused(NoCell, {"x": thing, "y": 1}, "shift", "c", thing, 1)
            self.assert_refused(NoCell, {"x": 1, "y": thing}, "shift", "c", 1, thing)
        self.assert_refused(SameColumn, {"name": "a"}, "shift", "c", 8, 4)
        self.assert_refused(SameRow, {"name": "b"}, "shift", "c", 3, 4)

    def test_unbar_and_bar(self):
        for deed in ("unbar", "bar"):
            for thing in THINGS + ["both", "a"]:
                self.assert_refused(NoSide, {"side": thing}, deed, thing, thing)
                self.assert_refused(NoSide, {"side": thing}, deed, thing, 2)
                self.assert_refused(NoRow, {"row": thing}, deed, "left", thing)
        self.assert_refused(OldSeat, {"side": "left", "row": 2}, "unbar", "left", 2)
        self.assert_refused(NoSeat, {"side": "right", "row": 2}, "bar", "right", 2)


class StayTest(HandCase):
    """[92]: pairs that are still an answer stay."""

    def test_two_answers_of_one_total(self):
        # Either of the two rows 1 and 3 is as near to the point; a hand made anew may take either of them.
        for first, second in ((1, 3), (3, 1)):
            hand = Hand(picture_of_points(3, 3, [("p", 1, 2)], [("left", first)]))
            self.assertEqual(hand.unbar("left", second), ([], 2, []))
            self.assertEqual(hand.pairs(), [("p", "left", first)])
            self.assertEqual(hand.come("q", 3, 3, "right"), (["q"], 2, []))
            self.assertEqual(hand.pairs(), [("p", "left", first)])
            self.assertEqual(hand.bar("left", first), (["q"], 2, ["p"]))
            self.assertEqual(hand.unbar("left", first), (["q"], 2, []))
            self.assertEqual(hand.pairs(), [("p", "left", second)])

    def test_an_answer_of_the_same_total_in_which_two_can_be_exchanged_does_not_stay(self):
        hand = Hand(picture_of_points(
            5, 5, [("p", 2, 5, "left"), ("q", 4, 4, "left")], [("left", 1), ("left", 3)]))
        self.assertEqual(hand.pairs(), [("p", "left", 3), ("q", "left", 1)])
        # Now p is farther from the rim, and in the old seats, which are still of the least total, the two would meet.
        self.assertEqual(hand.shift("q", 1, 4), ([], 8, ["p", "q"]))
        self.assertEqual(hand.pairs(), [("p", "left", 1), ("q", "left", 3)])

    def test_by_chance(self):
        chance = random.Random("stay")
        counts = {"stayed though another one is told anew": 0, "stayed": 0, "changed": 0, "refused": 0, "crossed": 0}
        for picture in [*chance_pictures("stay", 150), *one_sided_pictures("stay", 50)]:
            hand = Hand(picture)
            for turn in range(12):
                before = hand.pairs()
                deed = chance_deed(hand.picture_now(), chance)
                if not self.assert_deed(Hand(hand.picture_now()), *deed):
                    self.assert_deed(hand, *deed)
                    counts["refused"] += 1
                    continue
                self.assert_answered(hand, before, *deed)
                now = hand.picture_now()
                self.assert_hand(hand, now)
                self.assertTrue(plainly_an_answer(now, hand.pairs()))
                counts[self.assert_stay(now, before, hand.pairs())] += 1
                counts["crossed"] += self.is_least_but_crossed(now, before)
        for sort, count in counts.items():
            self.assertGreater(count, 0, sort)

    def assert_stay(self, picture, before, pairs):
        known = names_of(picture)
        if not all(pair[0] in known for pair in before) or not plainly_an_answer(picture, before):
            self.assertNotEqual(pairs, before)
            return "changed"
        self.assertEqual(pairs, before)
        return "stayed" if answer(picture)[0] == pairs else "stayed though another one is told anew"

    def is_least_but_crossed(self, picture, before):
        if [pair[0] for pair in before] != kept(picture) or not all(picture.may(*pair) for pair in before):
            return False
        return plain_total(picture, before) == answer(picture)[1] and exchanges_in(picture, before) != {}


class FollowsTest(HandCase):
    """[94], and [8], [9] of hands."""

    def test_beside_a_hand_made_anew(self):
        chance = random.Random("anew")
        for picture in [*chance_pictures("anew", 60), *chance_pictures("great anew", 12, 12, 16)]:
            hand = Hand(picture)
            for turn in range(12):
                old = hand_state(hand)
                deed = chance_deed(hand.picture_now(), chance)
                caught(RimError, getattr(hand, deed[0]), *deed[1:])
                anew = Hand(hand.picture_now())
                self.assertEqual((hand.kept(), hand.left_out(), hand.total()),
                                 (anew.kept(), anew.left_out(), anew.total()))
                self.assert_hand(hand, hand.picture_now())
                if deed[0] == "shift":
                    self.assertEqual(hand.kept(), old[1])
                if deed[0] == "unbar":
                    self.assertLessEqual(set(old[1]), set(hand.kept()))
                    if hand.kept() == old[1]:
                        self.assertLessEqual(hand.total(), old[4])

    def test_the_same_deeds_tell_the_same(self):
        chance = random.Random("the same")
        for picture in chance_pictures("the same", 60):
            one, other = Hand(picture), Hand(picture.copied())
            for turn in range(10):
                deed = chance_deed(one.picture_now(), chance)
                told, other_told = [caught(RimError, getattr(hand, deed[0]), *deed[1:]) for hand in (one, other)]
                if isinstance(told, RimError):
                    told, other_told = [(type(refusal), vars(refusal)) for refusal in (told, other_told)]
                self.assertEqual(told, other_told)
                self.assertEqual(hand_state(one), hand_state(other))

    def test_asking_changes_nothing(self):
        for picture in chance_pictures("asking", 40):
            hand = Hand(picture)
            before = hand_state(hand)
            for turn in range(3):
                self.assertEqual(hand_state(hand), before)


class FreeTest(HandCase):
    """[6]: what is handed in and what is told is free of the hand."""

    def changed(self, picture):
        picture.take(names_of(picture)[0])
        picture.put("z", 1, 1)
        picture.shut_seat(*picture.seats()[0])
        picture.open_seat("left", 7)

    def test_the_picture_handed_in(self):
        picture = ordinary_picture()
        hand = Hand(picture)
        before = hand_state(hand)
        self.changed(picture)
        self.assertEqual(hand_state(hand), before)
        picture = ordinary_picture()
        hand = Hand(picture)
        hand.go("c")
        hand.unbar("left", 1)
        self.assertEqual(state(picture), state(ordinary_picture()))

    def test_a_picture_told(self):
        hand = Hand(ordinary_picture())
        before = hand_state(hand)
        told = hand.picture_now()
        self.changed(told)
        self.assertEqual(hand_state(hand), before)
        told = hand.picture_now()
        hand.go("c")
        self.assertEqual(state(told), state(ordinary_picture()))

    def test_lists_told(self):
        hand = Hand(picture_of_points(6, 5, [("a", 3, 2), ("b", 1, 3), ("c", 5, 5)], [("left", 2), ("right", 2)]))
        before = hand_state(hand)
        for told in (hand.kept(), hand.left_out(), hand.pairs(), hand.left_out()[0][1]):
            told.append("more")
            told[0] = None
        self.assertEqual(hand_state(hand), before)
        out, length, moved = hand.unbar("left", 3)
        wanted = hand_state(hand)
        for told in (out, moved):
            told.append("more")
        self.assertEqual(hand_state(hand), wanted)
        pairs, names = hand.pairs(), hand.kept()
        hand.go("a")
        self.assertEqual((pairs, names), (wanted[3], wanted[1]))

    def test_two_hands(self):
        picture = ordinary_picture()
        one, other = Hand(picture), Hand(picture)
        before = hand_state(other)
        for seat in rim_seats(7):
            caught(RimError, one.unbar, *seat)
        one.go("a")
        self.assertEqual(hand_state(other), before)


if __name__ == "__main__":
    unittest.main()
