"""[6], [7], [100] to [104]: the lines of a desk, their answers and their refusals."""

import random
import unittest

from rimnotes.columns import column_places
from rimnotes.desk import Desk
from rimnotes.drawings import drawn
from rimnotes.errors import (
    NoCell, NoLine, NoName, NoPoint, NoRow, NoSeat, NoSide, NoSides, NoSize, NoWindow, OldPoint, OldSeat, RimError,
    SameColumn, SameRow, TooMany, TooTall)
from rimnotes.hands import Hand
from rimnotes.least import least
from rimnotes.pictures import Picture
from rimnotes.writing import lines_of
from things import THINGS, caught, full_picture, names_of, rim_seats

# One line of each form but the frame line; all of them are good behind the lines of `ordinary_desk`.
GOOD_LINES = [
    "left 1", "left 4 6-7", "right 5 2", "point d 1 1", "point d 1 1 left", "point d 1 1 both 2 3", "shut left 2",
    "take a", "move a 9 7", "kept", "total", "seat a", "why a", "price a", "price left 2", "lines", "draw", "columns",
    "columns a:2", "columns a:2 b:6"]
# Lines that are of no form, whatever the desk keeps.
NO_LINES = [
    "", " ", "  ", "frame", "frame 3", "frame 3 3 3", "frame 03 3", "frame 3 100", "frame 3 -3", "frame 3  3",
    " frame 3 3", "frame 3 3 ", "Frame 3 3", "frame a b", "frame 3,3",
    "left", "left ", "left 0x", "left a", "left 1,2", "left 3-1", "left 1-", "left -1", "left 1-2-3", "left 01",
    "left 100", "left 1  2", "left 1 a", "right", "right 2-1", "right +1", "right 1 2 03", "both 1", "up 1", "seat",
    "point", "point d", "point d 1", "point d 1 1 left 2", "point d 1 1 left 2 3 4", "point d 01 1", "point d 1 x",
    "point d -1 1", "point d 1 1 left 2 x", "point d 1 1 left x 2", "point d 1 100", "points d 1 1", "point d 1 1 ",
    "shut", "shut left", "shut left x", "shut left 02", "shut left 2 3", "shut left 2-3", "shut 2 left", "shut left -2",
    "take", "take a b", "take a ", "take  a", "move", "move a", "move a 1", "move a 1 1 1", "move a x 1", "move a 1 01",
    "move a 1 -1", "kept a", "kept ", " kept", "Kept", "keep", "total 1", "totals", "seat a b", "seat a 1", "why",
    "why a b", "price", "price left x", "price a b", "price left 02", "price left 2 3", "price left -2", "lines 1",
    "line", "draw a", "drawn", "columns a", "columns a:", "columns :2", "columns a:0", "columns a:10", "columns a:02",
    "columns a:x", "columns ab:2", "columns A:2", "columns a:2 a:2", "columns a:2 b:3 a:4", "columns a:2:3",
    "columns a :2", "columns a: 2", "columns a:-2", "columns a:2,b:3", "columns a:2 ", "columns  a:2", "column",
    "columns a=2", "columns 2:a", "columns z:2 z:2", "columns z:2 a:0", "ok", "quit", "-", "a", "7"]


def ordinary_desk():
    desk = Desk()
    for line in ["frame 9 7", "point c 3 2", "point a 8 6 left 2 5", "point b 5 4 right 3 3", "right 7 3 1",
                 "left 2-3"]:
        desk.say(line)
    return desk


def names_text(names):
    return " ".join(names) or "-"


def all_told(desk):
    """All that a desk with a hand tells, to see whether something has changed."""
    told = [desk.say(line) for line in ("kept", "total", "lines", "draw", "columns")]
    names = [line.split()[1] for line in told[2].split("\n") if line.startswith("point")]
    return told + [desk.say(f"{word} {name}") for word in ("seat", "why", "price") for name in names]


class DeskCase(unittest.TestCase):
    def assert_refused(self, error, fields, desk, line):
        refusal = caught(RimError, desk.say, line)
        self.assertIs(type(refusal), error, line)
        self.assertEqual(vars(refusal), fields, line)

    def assert_unchanged(self, desk, error, fields, line):
        before = all_told(desk)
        self.assert_refused(error, fields, desk, line)
        self.assertEqual(all_told(desk), before, line)


class NoLineTest(DeskCase):
    def test_things_that_are_no_text(self):
        for thing in [thing for thing in THINGS if not isinstance(thing, str)] + [["kept"], ("frame 3 3",), b"kept"]:
            self.assert_refused(NoLine, {}, Desk(), thing)
            self.assert_unchanged(ordinary_desk(), NoLine, {}, thing)

    def test_lines_of_no_form(self):
        desk = ordinary_desk()
        before = all_told(desk)
        for line in NO_LINES:
            self.assert_refused(NoLine, {}, desk, line)
            self.assert_refused(NoLine, {}, Desk(), line)
        self.assertEqual(all_told(desk), before)

    def test_all_but_a_frame_line_ahead_of_the_first_one(self):
        desk = Desk()
        for line in GOOD_LINES + ["take z", "seat z", "price up 1", "left 99", "columns z:1", "point D 0 0 up 9 1"]:
            self.assert_refused(NoLine, {}, desk, line)
        self.assertEqual(desk.say("frame 3 3"), "ok")
        self.assertEqual(desk.say("kept"), "-")

    def test_a_refused_frame_line_makes_no_hand(self):
        desk = Desk()
        for line in ("frame 0 3", "frame 3 0", "frame 31 3", "frame 3 17", "frame 99 99"):
            self.assert_refused(NoSize, {}, desk, line)
            self.assert_refused(NoLine, {}, desk, "kept")

    def test_the_good_lines_are_good(self):
        for line in GOOD_LINES:
            self.assertIs(type(ordinary_desk().say(line)), str)

    def test_ahead_of_all_other_refusals(self):
        desk = ordinary_desk()
        for line in ["left 2 99 x", "left 2 2-1", "point A 99 x", "point a 1 1 up 9", "shut up x", "move z 99 x",
                     "price up x", "columns z:1 a:0", "columns a:9 z:1 c:10", "take z z"]:
            self.assert_unchanged(desk, NoLine, {}, line)


class FrameTest(DeskCase):
    def test_sizes(self):
        for width in (1, 2, 30):
            for height in (1, 2, 16):
                desk = Desk()
                self.assertEqual(desk.say(f"frame {width} {height}"), "ok")
                self.assertEqual(desk.say("lines"), f"frame {width} {height}")
                self.assertEqual(desk.say("draw"), "\n".join([" " * (width + 2)] * height))

    def test_an_empty_desk(self):
        desk = Desk()
        desk.say("frame 3 2")
        self.assertEqual(all_told(desk), ["-", "0", "frame 3 2", "     \n     ", "-"])

    def test_a_second_frame_line_forgets_all(self):
        desk = ordinary_desk()
        self.assertEqual(desk.say("frame 4 2"), "ok")
        self.assertEqual(all_told(desk), ["-", "0", "frame 4 2", "      \n      ", "-"])
        self.assertEqual(desk.say("left 2"), "total 0 left - moved -")

    def test_one_that_is_refused_changes_nothing(self):
        for line in ("frame 0 3", "frame 3 0", "frame 31 3", "frame 3 17", "frame 0 0", "frame 99 1"):
            self.assert_unchanged(ordinary_desk(), NoSize, {}, line)


class DeedsTest(DeskCase):
    def assert_session(self, session):
        desk = Desk()
        for line, answer in session:
            self.assertEqual(desk.say(line), answer, line)

    def test_a_session(self):
        self.assert_session([
            ("frame 6 5", "ok"),
            ("point a 3 2", "total 0 left a moved -"),
            ("point b 1 3 both", "total 0 left a b moved -"),
            ("left 2", "total 3 left b moved -"),
            ("right 2", "total 6 left - moved a"),
            ("point c 5 4 left 1 3", "total 6 left c moved -"),
            ("kept", "a b"),
            ("total", "6"),
            ("seat a", "right 2"),
            ("seat b", "left 2"),
            ("seat c", "none"),
            ("why a", "kept"),
            ("why b", "kept"),
            ("price a", "4"),
            ("price b", "3"),
            ("price c", "none"),
            ("price left 2", "-1"),
            ("price right 2", "0"),
            ("lines", "frame 6 5\nleft 2\nright 2\npoint a 3 2\npoint b 1 3\npoint c 5 4 left 1 3"),
            ("draw", "        \nb+ a---a\n b      \n     c  \n        "),
            ("columns", "a right 2; b left 2"),
            ("columns a:5 c:9", "a right 1; b left 2"),
            ("left 1", "total 14 left - moved -"),
            ("why c", "kept"),
            ("draw", "c----+  \nb+ a-#-a\n b   |  \n     c  \n        "),
        ])

    def test_shut_take_and_move(self):
        self.assert_session([
            ("frame 6 5", "ok"),
            ("left 2-3", "total 0 left - moved -"),
            ("right 2", "total 0 left - moved -"),
            ("point a 3 2", "total 3 left - moved -"),
            ("point b 1 3", "total 4 left - moved -"),
            ("shut left 3", "total 6 left - moved a b"),
            ("shut right 2", "total 3 left b moved a"),
            ("shut left 2", "total 0 left a b moved -"),
            ("left 3 2", "total 4 left - moved -"),
            ("move a 6 5", "total 10 left - moved -"),
            ("move b 5 1", "total 14 left - moved a b"),
            ("move b 1 3", "total 10 left - moved a b"),
            ("move a 6 5", "total 10 left - moved -"),
            ("take a", "total 1 left - moved -"),
            ("take b", "total 0 left - moved -"),
            ("lines", "frame 6 5\nleft 2-3"),
        ])

    def test_the_seats_of_a_rims_line(self):
        self.assert_session([
            ("frame 5 16", "ok"),
            ("left 3 1 5-7 16", "total 0 left - moved -"),
            ("right 2-2 8-9 1", "total 0 left - moved -"),
            ("lines", "frame 5 16\nleft 1 3 5-7 16\nright 1-2 8-9"),
        ])

    def test_moved_names_by_the_pairs_ahead_of_the_whole_line_and_behind_it(self):
        # By row 1 p is moved there, and by row 3 it comes back, so by both in one line it has not moved.
        begun = [("frame 3 4", "ok"), ("left 2", "total 0 left - moved -"),
                 ("point p 3 4 left", "total 5 left - moved -"), ("point q 2 3 left", "total 5 left q moved -")]
        self.assert_session(begun + [
            ("left 1", "total 9 left - moved p"), ("left 3", "total 7 left - moved p q"), ("seat p", "left 2")])
        self.assert_session(begun + [("left 1 3", "total 7 left - moved -"), ("seat p", "left 2")])
        self.assert_session(begun + [("left 1", "total 9 left - moved p"), ("seat p", "left 1")])

    def test_several_names(self):
        self.assert_session([
            ("frame 4 4", "ok"), ("point d 1 1", "total 0 left d moved -"), ("point b 2 2", "total 0 left d b moved -"),
            ("point c 3 3", "total 0 left d b c moved -"), ("left 1", "total 1 left b c moved -"), ("kept", "d"),
            ("why b", "d"), ("why c", "d"), ("left 2", "total 3 left c moved -"), ("kept", "d b"),
        ])

    def test_a_point_without_open_seats_has_no_holders(self):
        self.assert_session([
            ("frame 4 4", "ok"), ("left 1", "total 0 left - moved -"), ("point a 1 1 right", "total 0 left a moved -"),
            ("why a", "-"), ("seat a", "none"), ("price a", "none"), ("price left 1", "0"), ("columns", "-"),
            ("columns a:9", "-")])


class DeedsRefusedTest(DeskCase):
    def test_points(self):
        for line, error, fields in [
            ("point A 1 1", NoName, {"name": "A"}), ("point ab 1 1", NoName, {"name": "ab"}),
            ("point 7 99 99 up 9 1", NoName, {"name": "7"}),
            ("point d 0 1", NoCell, {"x": 0, "y": 1}), ("point d 10 1", NoCell, {"x": 10, "y": 1}),
            ("point d 1 8 up", NoCell, {"x": 1, "y": 8}), ("point d 1 1 up", NoSides, {"sides": "up"}),
            ("point d 1 1 3", NoSides, {"sides": "3"}), ("point d 1 1 up 9 9", NoSides, {"sides": "up"}),
            ("point d 1 1 left 0 3", NoWindow, {"low": 0, "high": 3}),
            ("point d 1 1 left 3 2", NoWindow, {"low": 3, "high": 2}),
            ("point a 1 1 left 3 8", NoWindow, {"low": 3, "high": 8}),
            ("point a 1 1", OldPoint, {"name": "a"}), ("point d 3 6", SameColumn, {"name": "c"}),
            ("point d 4 6", SameRow, {"name": "a"}),
        ]:
            self.assert_unchanged(ordinary_desk(), error, fields, line)

    def test_thirteen_points(self):
        desk = Desk()
        desk.say("frame 30 16")
        for name, x, y, *rest in full_picture().points():
            desk.say(f"point {name} {x} {y}")
        self.assert_unchanged(desk, TooMany, {}, "point m 13 13")

    def test_shut_take_and_move(self):
        for line, error, fields in [
            ("shut up 2", NoSide, {"side": "up"}), ("shut up 99", NoSide, {"side": "up"}),
            ("shut both 2", NoSide, {"side": "both"}), ("shut left 0", NoRow, {"row": 0}),
            ("shut right 8", NoRow, {"row": 8}), ("shut left 1", NoSeat, {"side": "left", "row": 1}),
            ("take d", NoPoint, {"name": "d"}), ("take left", NoPoint, {"name": "left"}),
            ("take 7", NoPoint, {"name": "7"}), ("move d 99 99", NoPoint, {"name": "d"}),
            ("move a 0 1", NoCell, {"x": 0, "y": 1}), ("move a 1 8", NoCell, {"x": 1, "y": 8}),
            ("move a 3 2", SameColumn, {"name": "c"}), ("move a 1 2", SameRow, {"name": "c"}),
        ]:
            self.assert_unchanged(ordinary_desk(), error, fields, line)

    def test_a_rims_line_is_refused_as_the_first_row_that_is_to_be_refused(self):
        # Open are the rows 2 and 3 of the left rim and 1, 3 and 7 of the right one, in a frame of 7 rows.
        for line, error, fields in [
            ("left 2", OldSeat, {"side": "left", "row": 2}), ("left 1 2", OldSeat, {"side": "left", "row": 2}),
            ("left 1 4-6 3", OldSeat, {"side": "left", "row": 3}), ("left 1-7", OldSeat, {"side": "left", "row": 2}),
            ("left 0", NoRow, {"row": 0}), ("left 8", NoRow, {"row": 8}), ("left 6-9", NoRow, {"row": 8}),
            ("left 0-3", NoRow, {"row": 0}), ("left 1 8 2", NoRow, {"row": 8}),
            ("left 1 2 8", OldSeat, {"side": "left", "row": 2}), ("left 1 1", OldSeat, {"side": "left", "row": 1}),
            ("left 4-6 5", OldSeat, {"side": "left", "row": 5}), ("left 4 1-7", OldSeat, {"side": "left", "row": 2}),
            ("left 4 1 4 99", OldSeat, {"side": "left", "row": 4}), ("right 2 3", OldSeat, {"side": "right", "row": 3}),
            ("right 2 99", NoRow, {"row": 99}), ("right 4-6 7-8", OldSeat, {"side": "right", "row": 7}),
        ]:
            desk = ordinary_desk()
            self.assert_unchanged(desk, error, fields, line)
            # None of its rows was unbarred.
            self.assertEqual(desk.say("left 1 4-7").split()[0], "total")
            self.assertEqual(desk.say("right 2 4-6").split()[0], "total")


class QuestionsTest(DeskCase):
    def test_seats_whys_and_prices(self):
        desk = Desk()
        for line in ["frame 9 9", "point d 1 1 left 1 2", "point a 2 2 left 1 1", "point c 3 3 left 1 2",
                     "point b 4 4 right", "point e 5 5", "left 1 2", "right 4"]:
            desk.say(line)
        self.assertEqual(desk.say("kept"), "d a b")
        self.assertEqual([desk.say(f"seat {name}") for name in "dabce"],
                         ["left 2", "left 1", "right 4", "none", "none"])
        self.assertEqual([desk.say(f"why {name}") for name in "dab"], ["kept"] * 3)
        self.assertEqual(sorted(desk.say("why c").split(" ")), ["a", "d"])
        self.assertEqual(sorted(desk.say("why e").split(" ")), ["a", "b", "d"])
        self.assertEqual([desk.say(f"price {name}") for name in "ce"], ["none"] * 2)
        self.assertEqual(desk.say("total"), "11")

    def test_unknown_points(self):
        desk = ordinary_desk()
        for word in ("seat", "why", "price"):
            for name in ("d", "z", "A", "ab", "7", "left", "-", "a,"):
                self.assert_unchanged(desk, NoPoint, {"name": name}, f"{word} {name}")

    def test_prices_of_seats(self):
        desk = ordinary_desk()
        for line, error, fields in [
            ("price up 2", NoSide, {"side": "up"}), ("price a 2", NoSide, {"side": "a"}),
            ("price both 99", NoSide, {"side": "both"}), ("price left 0", NoRow, {"row": 0}),
            ("price right 8", NoRow, {"row": 8}), ("price left 1", NoSeat, {"side": "left", "row": 1}),
            ("price right 2", NoSeat, {"side": "right", "row": 2}),
        ]:
            self.assert_unchanged(desk, error, fields, line)
        for side, row in [("left", 2), ("left", 3), ("right", 1), ("right", 3), ("right", 7)]:
            self.assertRegex(desk.say(f"price {side} {row}"), r"\A(0|-[1-9][0-9]*)\Z")
        desk.say("shut right 7")
        self.assert_unchanged(desk, NoSeat, {"side": "right", "row": 7}, "price right 7")

    def test_columns(self):
        desk = Desk()
        for line in ["frame 6 8", "left 2-4", "right 1 8", "point a 1 2 left", "point b 2 4 left", "point c 3 3 left",
                     "point d 4 8 right", "point e 6 1 right", "point f 5 6 left"]:
            desk.say(line)
        self.assertEqual(desk.say("kept"), "a b c d e")
        for line, answer in [
            ("columns", "a left 2; b left 4; c left 3; d right 8; e right 1"),
            ("columns b:1 a:1 c:1 d:1 e:1", "a left 2; b left 4; c left 3; d right 8; e right 1"),
            ("columns d:3 e:2", "a left 2; b left 4; c left 3; d right 6; e right 1"),
            ("columns a:3 b:2 c:3", "a left 1; b left 7; c left 4; d right 8; e right 1"),
            ("columns f:9", "a left 2; b left 4; c left 3; d right 8; e right 1"),
        ]:
            self.assertEqual(desk.say(line), answer, line)
        for line, error, fields in [
            ("columns a:7", TooTall, {"side": "left"}), ("columns d:8", TooTall, {"side": "right"}),
            ("columns d:8 a:7", TooTall, {"side": "left"}), ("columns z:1", NoPoint, {"name": "z"}),
            ("columns a:1 z:1 y:1", NoPoint, {"name": "z"}), ("columns y:1 a:9 z:1", NoPoint, {"name": "y"}),
            ("columns a:9 d:9 z:9", NoPoint, {"name": "z"}),
        ]:
            self.assert_unchanged(desk, error, fields, line)

    def test_answers_go_by_the_hand_as_it_is(self):
        desk = ordinary_desk()
        self.assertEqual(desk.say("seat a"), "left 3")
        desk.say("left 5")
        self.assertEqual(desk.say("seat a"), "left 5")
        desk.say("take a")
        self.assert_refused(NoPoint, {"name": "a"}, desk, "seat a")
        self.assertEqual(desk.say("kept"), "c b")


class BesideAHandTest(DeskCase):
    """Sessions by chance, beside a hand that is told the same deeds."""

    def test_sessions(self):
        chance = random.Random("sessions")
        counts = {"done": 0, "refused": 0, "several": 0, "moved": 0}
        for turn in range(60):
            width, height = chance.randint(1, 7), chance.randint(1, 6)
            desk, hand = Desk(), Hand(Picture(width, height))
            self.assertEqual(desk.say(f"frame {width} {height}"), "ok")
            for seat in chance.sample(rim_seats(height), height):
                self.assert_done(desk, hand, counts, "{} {}".format(*seat), [("unbar", *seat)])
            for step in range(25):
                line, deeds = self.chance_line(hand.picture_now(), chance)
                hand = self.assert_done(desk, hand, counts, line, deeds)
                self.assert_questions(desk, hand, chance)
        self.assertGreater(min(counts.values()), 20, counts)

    def chance_line(self, picture, chance):
        """A line, with the deeds that it tells."""
        x, y = chance.randint(0, picture.width + 1), chance.randint(0, picture.height + 1)
        low, high = chance.randint(1, picture.height), chance.randint(1, picture.height)
        side, name = chance.choice(["left", "right"]), chance.choice("abcdefghijklmn")
        known = chance.choice(names_of(picture) or ["z"])
        rows = [chance.randint(1, picture.height + 1) for row in range(chance.randint(1, 3))]
        return chance.choice([
            (f"point {name} {x} {y}", [("come", name, x, y)]),
            (f"point {name} {x} {y} {side}", [("come", name, x, y, side)]),
            (f"point {name} {x} {y} both {low} {high}", [("come", name, x, y, "both", low, high)]),
            (f"move {known} {x} {y}", [("shift", known, x, y)]),
            (f"take {known}", [("go", known)]) if chance.randint(0, 2) == 0 else (f"take {name}", [("go", name)]),
            (f"shut {side} {y}", [("bar", side, y)]),
            (f"{side} {' '.join(map(str, rows))}", [("unbar", side, row) for row in rows]),
            (f"{side} {low}-{low + 1}", [("unbar", side, low), ("unbar", side, low + 1)]),
        ])

    def assert_done(self, desk, hand, counts, line, deeds):
        """That a line does these deeds, all or none; the hand behind it comes back."""
        before, old_pairs = desk.say("lines"), hand.pairs()
        self.assertEqual(before.split("\n"), lines_of(hand.picture_now()))
        trial = hand.picture_now()
        methods = {"come": trial.put, "go": trial.take, "shift": trial.move, "unbar": trial.open_seat,
                   "bar": trial.shut_seat}
        for deed, *handed_in in deeds:
            refusal = caught(RimError, methods[deed], *handed_in)
            if isinstance(refusal, RimError):
                self.assert_refused(type(refusal), vars(refusal), desk, line)
                self.assertEqual(desk.say("lines"), before)
                counts["refused"] += 1
                return hand
        told = desk.say(line)
        for deed, *handed_in in deeds:
            getattr(hand, deed)(*handed_in)
        out = names_text([name for name, holders in hand.left_out()])
        seats = {pair[0]: pair[1:] for pair in old_pairs}
        moved = names_text([name for name, *seat in hand.pairs() if seats.get(name, tuple(seat)) != tuple(seat)])
        self.assertEqual(told, f"total {hand.total()} left {out} moved {moved}", line)
        counts["done"] += 1
        counts["several"] += len(deeds) > 1
        counts["moved"] += moved != "-"
        return hand

    def assert_questions(self, desk, hand, chance):
        picture, pairs = hand.picture_now(), hand.pairs()
        self.assertEqual(desk.say("kept"), names_text(hand.kept()))
        self.assertEqual(desk.say("total"), str(hand.total()))
        self.assertEqual(desk.say("lines"), "\n".join(lines_of(picture)))
        self.assertEqual(desk.say("draw"), "\n".join(drawn(picture, pairs)))
        least_pairs, own, rent = least(picture, hand.kept())
        seats = {name: f"{side} {row}" for name, side, row in pairs}
        holders = {name: names_text(names) for name, names in hand.left_out()}
        for name in names_of(picture):
            self.assertEqual(desk.say(f"seat {name}"), seats.get(name, "none"))
            self.assertEqual(desk.say(f"why {name}"), holders.get(name, "kept"))
            self.assertEqual(desk.say(f"price {name}"), str(own.get(name, "none")))
        for side, row in picture.seats():
            self.assertEqual(desk.say(f"price {side} {row}"), str(rent[(side, row)]))
        heights = {name: chance.randint(1, 3) for name in names_of(picture) if chance.randint(0, 2) == 0}
        line = " ".join(["columns"] + [f"{name}:{height}" for name, height in heights.items()])
        refusal = caught(TooTall, column_places, picture, pairs, heights)
        if isinstance(refusal, TooTall):
            self.assert_refused(TooTall, {"side": refusal.side}, desk, line)
        else:
            columns = column_places(picture, pairs, heights)
            told = "; ".join(f"{name} {side} {row}" for name, side, row, height in columns)
            self.assertEqual(desk.say(line), told or "-")


class TwoDesksTest(DeskCase):
    """[6]: desks have nothing in common, and tell the same where they are told the same."""

    def test_nothing_in_common(self):
        one, other = ordinary_desk(), ordinary_desk()
        before = all_told(other)
        for line in ("take a", "left 1", "move c 1 1", "frame 2 2"):
            one.say(line)
        self.assertEqual(all_told(other), before)

    def test_the_same_lines(self):
        one, other = Desk(), Desk()
        chance = random.Random("the same lines")
        lines = ["frame 9 7", "left 2-5", "right 3 5"] + GOOD_LINES * 3 + NO_LINES[:5]
        chance.shuffle(lines)
        for line in lines:
            told, other_told = [caught(RimError, desk.say, line) for desk in (one, other)]
            if isinstance(told, RimError):
                told, other_told = [(type(refusal), vars(refusal)) for refusal in (told, other_told)]
            self.assertEqual(told, other_told)

    def test_asking_changes_nothing(self):
        desk = ordinary_desk()
        before = all_told(desk)
        for turn in range(3):
            for line in GOOD_LINES[GOOD_LINES.index("kept"):]:
                caught(RimError, desk.say, line)
            self.assertEqual(all_told(desk), before)


if __name__ == "__main__":
    unittest.main()
