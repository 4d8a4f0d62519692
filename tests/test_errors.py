"""The errors: families, fields, and that each keeps the very objects that it is made of."""

import inspect
import unittest

from idleclaims import errors

FAMILIES = {
    "PaperError": {"InvalidPaper": ("word", "at")},
    "BookError": {
        "NotUsable": ("word", "at"),
        "NotPlain": ("pair",),
        "Claimed": ("pair",),
        "NotTold": ("pair",),
        "NotIdle": ("pair",),
        "Crowded": ("school",),
    },
    "LiveError": {"InvalidEvent": ("event", "reason"), "NothingToUndo": ("steps",)},
    "TextError": {"InvalidText": ("line", "field"), "InvalidRow": ("row",)},
}


class ErrorsTest(unittest.TestCase):
    def test_families(self):
        self.assertEqual(errors.IdleError.__bases__, (ValueError,))
        for family, members in FAMILIES.items():
            self.assertEqual(getattr(errors, family).__bases__, (errors.IdleError,))
            for name in members:
                self.assertEqual(getattr(errors, name).__bases__, (getattr(errors, family),))

    def test_defined_in_errors(self):
        for family, members in FAMILIES.items():
            for name in ["IdleError", family, *members]:
                self.assertEqual(getattr(errors, name).__module__, "idleclaims.errors")

    def test_fields_are_kept(self):
        for members in FAMILIES.values():
            for name, fields in members.items():
                made = getattr(errors, name)
                self.assertEqual(tuple(inspect.signature(made).parameters), fields)
                values = [[name, "field"], (object(), {})][:len(fields)]
                for error in (made(*values), made(**dict(zip(fields, values)))):
                    for field, value in zip(fields, values):
                        self.assertIs(getattr(error, field), value)

    def test_exactly_these_fields(self):
        for members in FAMILIES.values():
            for name, fields in members.items():
                made = getattr(errors, name)
                with self.assertRaises(TypeError):
                    made(*range(len(fields) + 1))
                with self.assertRaises(TypeError):
                    made(*range(len(fields) - 1))

    def test_raised_and_caught(self):
        for family, members in FAMILIES.items():
            for name, fields in members.items():
                for caught in (ValueError, errors.IdleError, getattr(errors, family), getattr(errors, name)):
                    with self.assertRaises(caught):
                        raise getattr(errors, name)(*fields)

    def test_any_values(self):
        for value in (None, True, -1, "", [], ("a", 1), 10 ** 59):
            self.assertIs(errors.NotPlain(value).pair, value)
            self.assertIs(errors.InvalidRow(row=value).row, value)
            self.assertIs(errors.NotUsable(at=value, word=None).at, value)
