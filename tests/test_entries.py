"""Point 9: is_entry, field_of."""

import itertools
import string
import unittest

from takesworks.days import Day
from takesworks.entries import field_of, is_entry
from takesworks.lengths import Length
from things import Stranger, anything, nested

REISE, BACH, ELLA = ("de", "Die Reise"), ("de", "Bach"), ("en", "Ella")
DAY, LENGTH = Day(1931, 4, 7), Length(187)
FULL = ("ab", 3, "X12", REISE, (BACH, ELLA), DAY, LENGTH)
BARE = ("ab", 3, None, None, None, None, None)
PARTS = ("house", "number", "code", "title", "players", "day", "length")
PLAYERS = tuple(("de", f"P{number}") for number in range(10))


def with_part(entry, part, thing):
    at = PARTS.index(part)
    return (*entry[:at], thing, *entry[at + 1:])


class IsEntry(unittest.TestCase):
    def look(self, part, thing, wanted):
        """In an entry that tells all, and in one that tells nothing else."""
        for entry in (FULL, BARE):
            self.assertIs(is_entry(with_part(entry, part, thing)), wanted)

    def test_each_field_told_and_not_told(self):
        for told in itertools.product((True, False), repeat=5):
            entry = ("ab", 3, *[thing if tells else None for thing, tells in zip(FULL[2:], told)])
            self.assertIs(is_entry(entry), True)
        self.assertIs(is_entry(thing=FULL), True)

    def test_house(self):
        for word in ("a", "z", "abcdefgh", "emi"):
            self.look("house", word, True)
        for thing in ("", "abcdefghi", "A", "Ab", "a1", "a b", " a", "a-b", "a\n", "\xe9", None, 1, ("ab",), ["ab"], b"ab"):
            self.look("house", thing, False)

    def test_number(self):
        for number in (0, 1, 60, 10 ** 29, 10 ** 30 - 1):
            self.look("number", number, True)
        for thing in (-1, -(10 ** 29), True, False, None, "3", (3,), [3], Length(3)):
            self.look("number", thing, False)

    def test_code(self):
        for code in ("A", "Z", "0", "9", "X12", "ABCDEFGHIJKL", "0" * 12, *string.ascii_uppercase, *string.digits):
            self.look("code", code, True)
        for thing in ("", "A" * 13, "a", "Ab", "A B", " A", "A-1", "A.", "A\n", "\xc4", "\u0660", 12, ("A",), ["A"], b"A"):
            self.look("code", thing, False)

    def test_title(self):
        for title in (REISE, ("fra", "x" * 40), ("de", "X")):
            self.look("title", title, True)
        for thing in ("Die Reise", "de:Die Reise", ("de", ""), ("d", "X"), ("de", "x" * 41), ("de", " X"), ["de", "X"],
                      ("de", "X", "Y"), (REISE,), ("de", "a|b"), ("de", "a,b")):
            self.look("title", thing, False)

    def test_players_of_one_to_eight(self):
        for many in range(1, 9):
            self.look("players", PLAYERS[:many], True)
        for many in (0, 9, 10):
            self.look("players", PLAYERS[:many], False)

    def test_players_rising(self):
        for chosen in itertools.product(PLAYERS[:3], repeat=3):
            self.look("players", chosen, chosen == PLAYERS[:3])
        self.look("players", (BACH, ELLA), True)
        self.look("players", (ELLA, BACH), False)
        self.look("players", (BACH, BACH), False)
        self.look("players", (("de", "C"), ("de", "b")), True)
        self.look("players", (("de", "b"), ("de", "C")), False)

    def test_players_that_are_none(self):
        for thing in (BACH, [BACH], (list(BACH),), (BACH, "Ella"), (BACH, None), ((BACH,),), {BACH: 1}, "Bach",
                      (BACH, ("en", "Ella "))):
            self.look("players", thing, False)

    def test_day(self):
        for day in (DAY, Day(1931), Day(1931, 4), Day(1), Day(9999, 12, 31)):
            self.look("day", day, True)
        for thing in (LENGTH, "1931-04-07", 1931, (1931, 4, 7), [1931, 4, 7], Day, Stranger(), ""):
            self.look("day", thing, False)

    def test_length(self):
        for length in (LENGTH, Length(0), Length(359999)):
            self.look("length", length, True)
        for thing in (DAY, "3:07", 187, 0, (187,), [187], Length, Stranger(), ""):
            self.look("length", thing, False)

    def test_truths_for_any_part(self):
        for part in PARTS:
            self.look(part, True, False)
            self.look(part, False, False)

    def test_anything_for_any_part(self):
        for part in PARTS:
            for thing in anything():
                fits = isinstance(thing, int) and not isinstance(thing, bool) and thing >= 0 and part == "number"
                fits = fits or isinstance(thing, str) and (thing, part) in (("a", "house"), ("1", "code"), ("1931", "code"))
                self.look(part, thing, fits or thing is None and part not in ("house", "number"))

    def test_one_part_more_or_fewer(self):
        for entry in (FULL, BARE):
            for many in range(7):
                self.assertIs(is_entry(entry[:many]), False)
            for thing in (None, 0, Length(1), ()):
                self.assertIs(is_entry((*entry, thing)), False)
            self.assertIs(is_entry(entry[1:]), False)

    def test_lists_in_the_place_of_tuples(self):
        self.assertIs(is_entry(list(FULL)), False)
        self.assertIs(is_entry(list(BARE)), False)
        self.assertIs(is_entry((FULL,)), False)
        self.assertIs(is_entry(dict(zip(PARTS, FULL))), False)

    def test_anything(self):
        for thing in anything():
            self.assertIs(is_entry(thing), False)
            self.assertIs(is_entry((thing,) * 7), False)

    def test_things_nested_thirty_deep(self):
        for wrap in (lambda inner: (inner,), lambda inner: [inner], lambda inner: {"a": inner},
                     lambda inner: (inner,) * 7, lambda inner: ("de", inner)):
            for deep in (3, 30):
                self.assertIs(is_entry(nested(deep, wrap)), False)

    def test_what_is_handed_in_is_unchanged(self):
        thing = [*FULL[:4], [list(BACH)], {"a": [4]}, None]
        before = repr(thing)
        self.assertIs(is_entry(thing), False)
        self.assertIs(is_entry(tuple(thing)), False)
        self.assertEqual(repr(thing), before)


class FieldOf(unittest.TestCase):
    def test_each_field(self):
        for field in PARTS[2:]:
            self.assertIs(field_of(FULL, field), FULL[PARTS.index(field)])
            self.assertIs(field_of(field=field, entry=FULL), FULL[PARTS.index(field)])

    def test_not_told(self):
        for field in PARTS[2:]:
            self.assertIsNone(field_of(BARE, field))
            self.assertIsNone(field_of(with_part(FULL, field, None), field))


if __name__ == "__main__":
    unittest.main()
