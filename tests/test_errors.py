"""Points 11, 14, 14a, 16 and 17: the classes of refusals."""

import unittest

from bothtimes import errors
from tests.samples import odd_things

REFUSALS = (
    ("NoDeed", ValueError, ()),
    ("NoQuestion", ValueError, ()),
    ("NoLine", ValueError, ()),
    ("Busy", RuntimeError, ()),
    ("Full", OverflowError, (("most", 60),)),
    ("Early", ValueError, (("last", 7),)),
    ("Broken", LookupError, (("day", 3), ("table", "staff"), ("key", "ann"), ("column", "team"))),
    ("NoFit", ArithmeticError, (("table", "staff"), ("key", "ann"), ("day", 3))),
    ("Clash", RuntimeError, (("table", "staff"), ("key", "ann"), ("day", 3))),
    ("Unlike", TypeError, ()),
    ("NoTable", KeyError, (("name", "staff"),)),
    ("NoView", KeyError, (("name", "staff"),)),
    ("Twice", ValueError, (("name", "staff"),)),
    ("NoText", ValueError, (("row", 2),)),
)


class Refusals(unittest.TestCase):
    def test_each_stands_right_under_its_class(self):
        for name, base, values in REFUSALS:
            self.assertEqual(getattr(errors, name).__bases__, (base,), name)

    def test_each_has_its_values(self):
        for name, base, values in REFUSALS:
            made = getattr(errors, name)(*[value for called, value in values])
            self.assertIsInstance(made, base)
            self.assertEqual(vars(made), dict(values), name)
            self.assertTrue(str(made))

    def test_each_is_made_with_just_its_values(self):
        for name, base, values in REFUSALS:
            kind = getattr(errors, name)
            given = [value for called, value in values]
            self.assertRaises(TypeError, kind, *given, 1)
            if given:
                self.assertRaises(TypeError, kind, *given[1:])

    def test_none_stands_under_another(self):
        kinds = [getattr(errors, name) for name, base, values in REFUSALS]
        for one in kinds:
            self.assertEqual([other for other in kinds if issubclass(one, other)], [one])

    def test_each_is_raised_and_caught(self):
        for name, base, values in REFUSALS:
            kind = getattr(errors, name)
            with self.assertRaises(kind) as caught:
                raise kind(*[value for called, value in values])
            self.assertEqual(vars(caught.exception), dict(values))

    def test_a_name_may_be_anything(self):
        for kind in (errors.NoTable, errors.NoView, errors.Twice):
            for thing in odd_things():
                made = kind(thing)
                self.assertIs(made.name, thing)
                self.assertTrue(str(made))


if __name__ == "__main__":
    unittest.main()
