"""Point 16, its first two sentences: Disc."""

import unittest

from takesworks.discs import Disc
from takesworks.errors import NoDisc, NotSuch
from things import Stranger, anything, nested

A, B, C = ("emi", 12), ("rca", 0), ("rca", 3)
NO_LABELS = [*anything(), "", "abcdefghi", "Ab", "AB", "aB", "a b", " ab", "ab ", "a1", "a-b", "ab\n", b"ab", ("ab",),
             ["ab"], {"ab": 1}]
NO_KEYS = [*anything(), ("emi", -1), ("emi", True), ("emi", False), ("emi", "1"), ("emi", None), ("emi", 1, 2), ("emi",),
           ("", 1), ("Emi", 1), ("abcdefghi", 1), (1, "emi"), ["emi", 1], (b"emi", 1), ("emi", (1,)), ("emi", -(10 ** 29))]


class Made(unittest.TestCase):
    def look(self, label, rows):
        for disc in (Disc(label, rows), Disc(label=label, rows=rows), Disc(label, rows=rows), Disc(rows=rows, label=label)):
            self.assertEqual(disc.label, label)
            self.assertEqual(disc.rows, rows)
            self.assertIs(type(disc.rows), tuple)
            self.assertEqual(len(disc), len(rows))

    def refused(self, label, rows):
        with self.assertRaises(NoDisc) as caught:
            Disc(label, rows)
        self.assertIsInstance(caught.exception, NotSuch)
        self.assertNotEqual(str(caught.exception), "")
        self.assertRaises(NoDisc, Disc, rows=rows, label=label)

    def test_labels(self):
        for label in ("a", "z", "ab", "abcdefgh"):
            self.look(label, (A,))

    def test_no_labels(self):
        for label in NO_LABELS:
            if label != "a" or isinstance(label, Stranger):
                self.refused(label, (A,))

    def test_one_and_thirty_rows(self):
        for many in (1, 2, 29, 30):
            self.look("ab", tuple(("emi", number) for number in range(many)))

    def test_none_and_thirty_one_rows(self):
        for many in (0, 31, 32, 100):
            self.refused("ab", tuple(("emi", number) for number in range(many)))

    def test_keys_twice(self):
        self.look("ab", (A, A))
        self.look("ab", (B, A, B))
        self.look("ab", (A,) * 30)
        self.refused("ab", (A,) * 31)

    def test_in_any_order(self):
        self.look("ab", (C, A, B))
        self.assertEqual(Disc("ab", (C, A, B)).rows, (C, A, B))

    def test_numbers(self):
        for number in (0, 1, 10 ** 29, 10 ** 30 - 1):
            self.look("ab", (("emi", number),))

    def test_no_keys(self):
        for key in NO_KEYS:
            self.refused("ab", (key,))
            self.refused("ab", (A, key))
            self.refused("ab", (key, A))
            self.refused("ab", (A,) * 29 + (key,))

    def test_no_rows(self):
        for rows in [*anything(), A, [A], [A, B], {A: B}, {A}, "emi 12", list(A)]:
            self.refused("ab", rows)

    def test_neither_label_nor_rows(self):
        for thing in anything():
            self.refused(thing, thing)

    def test_nested_thirty_deep(self):
        for wrap in (lambda inner: (inner,), lambda inner: [inner], lambda inner: (A, inner), lambda inner: ("emi", inner),
                     lambda inner: {"ab": inner}):
            self.refused(nested(30, wrap), (A,))
            self.refused("ab", nested(30, wrap))
            self.refused("ab", (A, nested(29, wrap)))

    def test_what_is_refused_is_unchanged(self):
        rows = [A, ["emi", {"a": 1}]]
        self.refused("ab", rows)
        self.assertEqual(rows, [A, ["emi", {"a": 1}]])


class Compared(unittest.TestCase):
    def test_with_a_disc_of_the_same_two(self):
        self.assertTrue(Disc("ab", (A, B)) == Disc("ab", (A, B)))
        self.assertFalse(Disc("ab", (A, B)) != Disc("ab", (A, B)))
        self.assertIs(Disc("ab", (A, B)) == Disc("ab", (A, B)), True)

    def test_with_other_discs(self):
        disc = Disc("ab", (A, B))
        for other in (Disc("ac", (A, B)), Disc("ab", (B, A)), Disc("ab", (A,)), Disc("ab", (A, B, B)), Disc("ab", (A, C))):
            self.assertFalse(disc == other)
            self.assertTrue(disc != other)

    def test_with_nothing_else(self):
        disc = Disc("ab", (A, B))
        for other in [*anything(), ("ab", (A, B)), "ab", (A, B), str(disc), repr(disc), ["ab", (A, B)]]:
            self.assertIs(disc == other, False)
            self.assertIs(disc != other, True)


class Written(unittest.TestCase):
    def test_str(self):
        self.assertEqual(str(Disc("ab", (A,))), "disc ab: emi 12")
        self.assertEqual(str(Disc("abcdefgh", (C, A, B))), "disc abcdefgh: rca 3, emi 12, rca 0")
        self.assertEqual(str(Disc("a", (A, A))), "disc a: emi 12, emi 12")
        self.assertEqual(str(Disc("a", (("emi", 10 ** 29),))), "disc a: emi 1" + "0" * 29)

    def test_repr(self):
        self.assertEqual(repr(Disc("ab", (A, B, C))), "Disc('ab', 3)")
        self.assertEqual(repr(Disc("a", (A,))), "Disc('a', 1)")
        self.assertEqual(repr(Disc("a", (A,) * 30)), "Disc('a', 30)")

    def test_len(self):
        for many in (1, 7, 30):
            self.assertEqual(len(Disc("ab", (A,) * many)), many)


if __name__ == "__main__":
    unittest.main()
