"""Point 7: is_name."""

import string
import unittest

from takesworks.names import is_name
from things import Stranger, anything, nested

SIGNS = string.ascii_letters + string.digits + " '-."


class IsName(unittest.TestCase):
    def taken(self, thing):
        self.assertIs(is_name(thing), True, thing)

    def refused(self, thing):
        self.assertIs(is_name(thing), False)

    def test_tongues(self):
        for tongue in ("de", "fr", "az", "zz", "aaa", "fra", "zzz"):
            self.taken((tongue, "x"))
        for tongue in ("", "d", "deut", "De", "dE", "DE", "deU", "d1", "d ", " d", "d-", "de\n", "\xe4d", "d\xdf"):
            self.refused((tongue, "x"))

    def test_1_to_40_signs(self):
        for many in range(1, 41):
            self.taken(("de", "x" * many))
        self.refused(("de", ""))
        for many in (41, 42, 80, 6000):
            self.refused(("de", "x" * many))
        self.taken(("de", "x" * 38 + " x"))
        self.refused(("de", "x" * 39 + " x"))

    def test_each_sign_that_may_stand(self):
        for sign in SIGNS:
            self.taken(("de", f"a{sign}b"))
            if sign != " ":
                self.taken(("de", sign))
                self.taken(("de", sign * 40))

    def test_signs_that_may_not(self):
        others = [chr(number) for number in range(128) if chr(number) not in SIGNS]
        for sign in [*others, "\xe9", "\xdf", "\xa0", "\u0660", "\u2019", "\u2013"]:
            for text in (sign, f"a{sign}b", f"{sign}b", f"a{sign}"):
                self.refused(("de", text))

    def test_blanks(self):
        for text in ("a b", "a b c d", "Die Reise", "' b", "- ."):
            self.taken(("de", text))
        for text in (" ", "  ", " a", "a ", "a  b", "a b  c", "a   b", " a ", "  a", "a  "):
            self.refused(("de", text))

    def test_of_two_parts(self):
        self.taken(("de", "Reise"))
        for thing in (("de",), ("de", "Reise", "x"), ("de", "Reise", None), (), "de", ("Reise", "de"), "de:Reise"):
            self.refused(thing)

    def test_lists(self):
        self.refused(["de", "Reise"])
        self.refused((["de"], "Reise"))
        self.refused(("de", ["Reise"]))
        self.refused({"de": "Reise"})
        self.refused([("de", "Reise")])
        self.refused((("de", "Reise"),))

    def test_anything(self):
        for thing in [*anything(), ("de", "Reise").__iter__(), is_name]:
            self.refused(thing)

    def test_anything_as_a_part(self):
        for thing in anything():
            self.refused((thing, "Reise"))
            self.refused((thing, thing))
        for thing in [None, 0, 1, True, False, [], ["a"], {}, {"a"}, (), ("a",), b"a", Stranger(), 10 ** 29,
                      nested(29, lambda inner: (inner,)), nested(29, lambda inner: [inner])]:
            self.refused(("de", thing))

    def test_by_name(self):
        self.assertIs(is_name(thing=("de", "Reise")), True)
        self.assertIs(is_name(thing=["de", "Reise"]), False)

    def test_what_is_handed_in_is_unchanged(self):
        thing = (["de"], {"a": ["b"]})
        is_name(thing)
        self.assertEqual(thing, (["de"], {"a": ["b"]}))


if __name__ == "__main__":
    unittest.main()
