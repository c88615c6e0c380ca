"""The interface's errors.py: families, places below them, values."""

import unittest

from takesworks import errors
from things import strangers, texts, truths, tuples

FAMILIES = {"NotSuch": ValueError, "Lost": LookupError, "Taken": RuntimeError}
MEMBERS = {
    "NotSuch": {
        "NoDay": ("year", "month", "day"), "NoLength": ("seconds",), "NoName": ("thing",), "NoEntry": ("thing",),
        "Same": ("thing",), "NoText": ("row", "wanted"), "NoLine": ("line",),
    },
    "Lost": {"NoNumber": ("number",), "Struck": ("number",), "NoKey": ("key",), "NoPath": ("path",)},
    "Taken": {"Twice": ("thing",)},
}
MADE_WITH_TEXT = {"NotSuch": ("NoCustom", "NoDisc")}


def with_values():
    """Every class that has values, with their names."""
    return [(getattr(errors, name), values) for family in MEMBERS for name, values in MEMBERS[family].items()]


class Families(unittest.TestCase):
    def test_each_family_is_straight_under_its_error_of_pythons(self):
        for name, above in FAMILIES.items():
            self.assertEqual(getattr(errors, name).__bases__, (above,))

    def test_no_family_is_under_another(self):
        for name in FAMILIES:
            for other in FAMILIES:
                if name != other:
                    self.assertFalse(issubclass(getattr(errors, name), getattr(errors, other)))

    def test_each_class_is_straight_under_its_family(self):
        for family in FAMILIES:
            for name in [*MEMBERS[family], *MADE_WITH_TEXT.get(family, ())]:
                with self.subTest(name):
                    self.assertEqual(getattr(errors, name).__bases__, (getattr(errors, family),))

    def test_each_is_defined_in_errors(self):
        for family in FAMILIES:
            for name in [family, *MEMBERS[family], *MADE_WITH_TEXT.get(family, ())]:
                self.assertEqual(getattr(errors, name).__module__, "takesworks.errors")


class Values(unittest.TestCase):
    def hand_in(self, kind, names, things):
        for error in (kind(*things), kind(**dict(zip(names, things)))):
            for name, thing in zip(names, things):
                self.assertIs(getattr(error, name), thing)

    def test_values_by_place_and_by_name(self):
        for kind, names in with_values():
            with self.subTest(kind.__name__):
                self.hand_in(kind, names, [object() for _ in names])

    def test_values_are_what_was_handed_in(self):
        for kind, names in with_values():
            for thing in [None, *strangers(), *texts(), *truths(), *tuples()]:
                self.hand_in(kind, names, [thing for _ in names])

    def test_names_stand_in_any_order(self):
        error = errors.NoDay(day=7, year=1931, month=4)
        self.assertEqual((error.year, error.month, error.day), (1931, 4, 7))
        error = errors.NoText(wanted="day", row=2)
        self.assertEqual((error.row, error.wanted), (2, "day"))

    def test_values_are_wanted(self):
        for kind, names in with_values():
            with self.subTest(kind.__name__):
                self.assertRaises(TypeError, kind)
                self.assertRaises(TypeError, kind, *names, "one more")

    def test_each_has_a_message(self):
        for kind, names in with_values():
            self.assertNotEqual(str(kind(*names)), "")

    def test_made_with_a_text(self):
        for name in MADE_WITH_TEXT["NotSuch"]:
            self.assertEqual(str(getattr(errors, name)("so it is")), "so it is")

    def test_each_can_be_raised_and_caught_by_its_family(self):
        for kind, names in with_values():
            with self.assertRaises(kind.__bases__[0]) as caught:
                raise kind(*names)
            self.assertIsInstance(caught.exception, kind)


if __name__ == "__main__":
    unittest.main()
