"""[6], [7]: the refusals, their classes, their fields, and what they hold."""

import unittest

import rimnotes.errors as errors
from rimnotes.errors import NoCell, NoRoom, NoSide, RimError

FIELDS = {
    "NoSize": (),
    "NoName": ("name",),
    "NoCell": ("x", "y"),
    "NoSides": ("sides",),
    "NoWindow": ("low", "high"),
    "OldPoint": ("name",),
    "NoPoint": ("name",),
    "TooMany": (),
    "SameColumn": ("name",),
    "SameRow": ("name",),
    "NoSide": ("side",),
    "NoRow": ("row",),
    "OldSeat": ("side", "row"),
    "NoSeat": ("side", "row"),
    "NoRoom": ("holders",),
    "NoNotes": (),
    "TooFull": ("first", "last"),
    "TooTall": ("side",),
    "BadLine": ("line",),
    "BadDrawing": ("row", "column"),
    "NoLine": (),
}
THINGS = ["left", "q", "", 0, 3, -7, 10 ** 5000, True, None, ["left"], ("a", 1), {"a": 1}, object()]


def values_for(name, shift):
    if name == "NoRoom":
        return [["a", "b", "c"][:shift % 4]]
    return [THINGS[(shift + 4 * k) % len(THINGS)] for k in range(len(FIELDS[name]))]


class ClassesTest(unittest.TestCase):
    def test_rim_error_stands_straight_under_value_error(self):
        self.assertEqual(RimError.__bases__, (ValueError,))

    def test_each_refusal_stands_straight_under_rim_error(self):
        for name in FIELDS:
            self.assertEqual(getattr(errors, name).__bases__, (RimError,), name)
            self.assertEqual(getattr(errors, name).__name__, name)

    def test_none_stands_under_another_one(self):
        for name in FIELDS:
            for other in FIELDS:
                under = issubclass(getattr(errors, name), getattr(errors, other))
                self.assertEqual(under, name == other, (name, other))

    def test_each_is_taken_by_its_own_class_and_those_above(self):
        for name in FIELDS:
            made = getattr(errors, name)
            for above in (made, RimError, ValueError):
                with self.assertRaises(above) as caught:
                    raise made(*values_for(name, 1))
                self.assertIs(type(caught.exception), made)


class FieldsTest(unittest.TestCase):
    def test_made_of_its_fields_in_their_order(self):
        for name, fields in FIELDS.items():
            for shift in range(len(THINGS)):
                values = values_for(name, shift)
                refusal = getattr(errors, name)(*values)
                self.assertEqual([getattr(refusal, field) for field in fields], values, name)

    def test_no_values_but_its_fields(self):
        for name, fields in FIELDS.items():
            self.assertEqual(sorted(vars(getattr(errors, name)(*values_for(name, 2)))), sorted(fields), name)

    def test_a_field_is_the_very_thing(self):
        for name, fields in FIELDS.items():
            if name != "NoRoom":
                values = [[k] for k in range(len(fields))]
                refusal = getattr(errors, name)(*values)
                for field, value in zip(fields, values):
                    self.assertIs(getattr(refusal, field), value)

    def test_a_field_that_is_missing_or_too_many(self):
        for name, fields in FIELDS.items():
            if fields:
                with self.assertRaises(TypeError):
                    getattr(errors, name)(*[1] * (len(fields) - 1))
                with self.assertRaises(TypeError):
                    getattr(errors, name)(*[1] * (len(fields) + 1))

    def test_two_refusals_have_nothing_in_common(self):
        one, other = NoCell(1, 2), NoCell(3, 4)
        self.assertEqual((one.x, one.y, other.x, other.y), (1, 2, 3, 4))
        first, second = NoSide("both"), NoSide(5)
        self.assertEqual((first.side, second.side), ("both", 5))


class HoldersTest(unittest.TestCase):
    def test_holders_are_a_list_of_the_same_names(self):
        for names in ([], ["a"], ["c", "a", "b"]):
            refusal = NoRoom(names)
            self.assertIs(type(refusal.holders), list)
            self.assertEqual(refusal.holders, names)

    def test_holders_are_the_refusals_own(self):
        names = ["a", "b"]
        refusal = NoRoom(names)
        words = str(refusal)
        names.append("c")
        names[0] = "z"
        self.assertEqual(refusal.holders, ["a", "b"])
        self.assertEqual(str(refusal), words)

    def test_what_is_done_to_holders_is_not_done_to_the_list_handed_in(self):
        names = ["a", "b"]
        refusal = NoRoom(names)
        self.assertEqual(names, ["a", "b"])
        refusal.holders.append("c")
        self.assertEqual(names, ["a", "b"])

    def test_two_refusals_of_one_list_have_nothing_in_common(self):
        names = ["a", "b"]
        one, other = NoRoom(names), NoRoom(names)
        again = NoRoom(one.holders)
        one.holders.append("c")
        self.assertEqual((other.holders, again.holders), (["a", "b"], ["a", "b"]))


if __name__ == "__main__":
    unittest.main()
