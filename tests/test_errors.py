"""Points 2 and 4: the refusals."""

import unittest

from leadbeats import errors

FIELDS = {
    "BadCanon": ("part",), "NoBeat": ("beat",), "BadVoices": ("at",), "NoLength": ("length",), "NoRow": ("at",),
    "BadTable": ("part", "at"), "BadKnown": ("at",), "NoWord": ("at",), "NoPlace": ("place",),
    "NoNumber": ("number",), "Unlike": ("part",), "BadTune": ("at",), "BadHeard": ("at",), "BadPrices": ("at",),
    "TooMany": ("many",),
}


class Refusals(unittest.TestCase):
    def test_any_refusal_is_an_arithmetic_error(self):
        self.assertEqual(errors.CanonError.__bases__, (ArithmeticError,))

    def test_each_is_straight_under_canon_error(self):
        self.assertEqual(len(FIELDS), 15)
        for name in FIELDS:
            self.assertEqual(getattr(errors, name).__bases__, (errors.CanonError,), name)

    def test_fields_are_set_by_places(self):
        for name, fields in FIELDS.items():
            things = [["any", at] for at in range(len(fields))]
            made = getattr(errors, name)(*things)
            for field, thing in zip(fields, things):
                self.assertIs(getattr(made, field), thing, name)

    def test_fields_are_set_by_names_in_any_order(self):
        for name, fields in FIELDS.items():
            things = {field: {"any": field} for field in reversed(fields)}
            made = getattr(errors, name)(**things)
            for field in fields:
                self.assertIs(getattr(made, field), things[field], name)

    def test_they_are_raised_and_caught(self):
        for name, fields in FIELDS.items():
            with self.assertRaises(errors.CanonError) as caught:
                raise getattr(errors, name)(*fields)
            self.assertEqual(vars(caught.exception), dict(zip(fields, fields)))

    def test_each_needs_all_its_fields(self):
        for name, fields in FIELDS.items():
            with self.assertRaises(TypeError):
                getattr(errors, name)(*fields[1:])


if __name__ == "__main__":
    unittest.main()
