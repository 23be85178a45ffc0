"""[3] refusals: their bases and fields."""

import unittest

from gapgrades import errors

CLASSES = {
    ValueError: {
        "NoRow": ["place"], "NoSort": ["place"], "Empty": ["name"], "NoThing": [], "NoScale": [],
        "NoStretch": ["name"], "NoOrder": [], "NoText": ["line"], "NoAsk": ["asked"],
    },
    KeyError: {"NoName": ["name"], "Twice": ["name"], "NoPiece": ["number"]},
    LookupError: {"Unlike": ["place"], "NotOne": ["name"], "NotGraded": ["name"]},
    IndexError: {"NoPlace": ["place"], "NoNumber": ["number"]},
    ArithmeticError: {"TooSmall": ["name"], "Against": ["place"]},
    OverflowError: {"TooMany": ["many"]},
    RuntimeError: {"Ringed": [], "Held": ["name"], "NoDeed": []},
}


class Errors(unittest.TestCase):
    def each(self):
        for base, names in CLASSES.items():
            for name, fields in names.items():
                with self.subTest(name):
                    yield base, getattr(errors, name), fields

    def test_each_stands_straight_under_its_base(self):
        for base, error, _ in self.each():
            self.assertEqual(error.__bases__, (base,))

    def test_fields_by_place(self):
        for _, error, fields in self.each():
            values = [object() for _ in fields]
            made = error(*values)
            self.assertEqual([getattr(made, field) for field in fields], values)
            self.assertEqual(sorted(vars(made)), sorted(fields))

    def test_fields_by_name(self):
        for _, error, fields in self.each():
            made = error(**{field: [field] for field in fields})
            self.assertEqual(vars(made), {field: [field] for field in fields})

    def test_a_field_is_needed(self):
        for _, error, fields in self.each():
            if fields:
                self.assertRaises(TypeError, error)

    def test_they_are_raised_and_caught(self):
        for base, error, fields in self.each():
            with self.assertRaises(base):
                raise error(*fields)

    def test_no_other_class(self):
        told = {name for name, value in vars(errors).items() if isinstance(value, type)}
        self.assertEqual(told, {name for names in CLASSES.values() for name in names})
