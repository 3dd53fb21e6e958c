"""The interface: names, arguments and defaults as they stand in the document."""

import importlib
import inspect
import unittest

from rimnotes.desk import Desk
from rimnotes.hands import Hand
from rimnotes.pictures import Picture
from rimnotes.sides import LeftSide, RightSide, Side

FUNCTIONS = {
    "words": {"is_whole": "(thing, low, high)", "is_name": "(thing)"},
    "sides": {"side_of": "(word, width)"},
    "leaders": {"cells_of": "(picture, name, side, row)"},
    "meets": {"meeting": "(picture, one, other)", "meetings": "(picture, pairs)", "total": "(picture, pairs)",
              "is_giving": "(picture, names, pairs)"},
    "reading": {"picture_of": "(lines)"},
    "writing": {"lines_of": "(picture)"},
    "keeping": {"fits": "(picture, names)", "kept": "(picture)", "left_out": "(picture)"},
    "least": {"least": "(picture, names)", "fault": "(picture, names, pairs, own, rent)"},
    "exchanges": {"upright": "(picture, pairs)", "exchangeable": "(picture, pairs)", "uncrossed": "(picture, pairs)"},
    "answers": {"answer": "(picture)"},
    "spread": {"spread": "(notes)", "is_spread": "(notes, places, pushes)"},
    "columns": {"column_places": "(picture, pairs, heights)"},
    "drawings": {"drawn": "(picture, pairs)", "seen": "(rows)"},
}
PUT = "(self, name, x, y, sides='both', low=1, high=None)"
ALONE, NAMED, CELL, SEAT = "(self)", "(self, name)", "(self, name, x, y)", "(self, side, row)"
METHODS = {
    Picture: {"put": PUT, "take": NAMED, "move": CELL, "open_seat": SEAT, "shut_seat": SEAT, "points": ALONE,
              "seats": ALONE, "place_of": NAMED, "may": "(self, name, side, row)", "length": "(self, name, side, row)",
              "seats_for": NAMED, "copied": ALONE, "mirrored": ALONE, "turned": ALONE},
    Hand: {"come": PUT, "go": NAMED, "shift": CELL, "unbar": SEAT, "bar": SEAT, "kept": ALONE, "left_out": ALONE,
           "pairs": ALONE, "total": ALONE, "picture_now": ALONE},
    Desk: {"say": "(self, line)"},
    LeftSide: {"word": ALONE, "rim": ALONE, "way": ALONE, "across": "(self, x)"},
    RightSide: {"word": ALONE, "rim": ALONE, "way": ALONE, "across": "(self, x)"},
}
MADE = {Picture: "(width, height)", Hand: "(picture)", Desk: "()", LeftSide: "(width)", RightSide: "(width)",
        Side: "(width)"}


class InterfaceTest(unittest.TestCase):
    def test_functions(self):
        for module, functions in FUNCTIONS.items():
            loaded = importlib.import_module("rimnotes." + module)
            for name, arguments in functions.items():
                self.assertEqual(str(inspect.signature(getattr(loaded, name))), arguments, (module, name))

    def test_methods(self):
        for made, methods in METHODS.items():
            for name, arguments in methods.items():
                self.assertEqual(str(inspect.signature(getattr(made, name))), arguments, (made, name))

    def test_how_objects_are_made(self):
        for made, arguments in MADE.items():
            self.assertEqual(str(inspect.signature(made)), arguments)


if __name__ == "__main__":
    unittest.main()
