"""Point 12: clashes_in."""

import itertools
import unittest

from takesworks.clashing import clashes_in
from takesworks.days import Day
from takesworks.lengths import Length
from takesworks.namebook import Names
from made import book, entry

REISE, VOYAGE, ANDERE = ("de", "Reise"), ("fr", "Voyage"), ("de", "Andere")
BACH, ELLA, ELLE = ("de", "Bach"), ("en", "Ella"), ("fr", "Elle")
NAMES = book((REISE, VOYAGE), (ELLA, ELLE))
A, B, C, D = ("ab", 2), ("ab", 10), ("b", 0), ("c", 7)


class ClashesIn(unittest.TestCase):
    def look(self, field, one, other, clashes, **named):
        """Of two entries that tell this field alone, in any order."""
        wanted = ((A, B, field),) if clashes else ()
        first, second = entry(A, **{field: one}), entry(B, **{field: other})
        self.assertEqual(clashes_in(NAMES, (first, second), **named), wanted)
        self.assertEqual(clashes_in(NAMES, (second, first), **named), wanted)
        first, second = entry(A, **{field: other}), entry(B, **{field: one})
        self.assertEqual(clashes_in(NAMES, (first, second), **named), wanted)

    def test_code(self):
        self.look("code", "X1", "X1", False)
        self.look("code", "X1", "X2", True)
        self.look("code", "X1", None, False)
        self.look("code", None, None, False)

    def test_title(self):
        self.look("title", REISE, REISE, False)
        self.look("title", REISE, VOYAGE, False)
        self.look("title", REISE, ANDERE, True)
        self.look("title", REISE, None, False)
        self.assertEqual(clashes_in(Names(), (entry(A, title=REISE), entry(B, title=VOYAGE))), ((A, B, "title"),))

    def test_players(self):
        self.look("players", (BACH, ELLA), (BACH, ELLA), False)
        self.look("players", (BACH, ELLA), (BACH, ELLE), False)
        self.look("players", (BACH, ELLA), (BACH, ELLA, ELLE), False)
        self.look("players", (BACH, ELLA), (BACH,), True)
        self.look("players", (BACH,), (ELLA,), True)
        self.look("players", (BACH,), None, False)

    def test_days_that_may_be_the_same(self):
        for one in (Day(1931), Day(1931, 4), Day(1931, 4, 7)):
            for other in (Day(1931), Day(1931, 4), Day(1931, 4, 7), None):
                self.look("day", one, other, False)

    def test_days_that_may_not(self):
        for one, other in ((Day(1931), Day(1932)), (Day(1931), Day(1932, 1)), (Day(1931, 4), Day(1931, 5)),
                           (Day(1931, 4), Day(1931, 5, 7)), (Day(1931, 4, 7), Day(1931, 4, 8)),
                           (Day(1931, 4, 7), Day(1931, 5, 7)), (Day(1931, 4), Day(1932, 4))):
            self.look("day", one, other, True)

    def test_slack_left_out(self):
        self.look("length", Length(100), Length(100), False)
        self.look("length", Length(100), Length(101), True)
        self.look("length", Length(100), None, False)

    def test_slack_at_the_bound_and_one_less(self):
        for apart in (1, 2, 7, 359999):
            self.look("length", Length(0), Length(apart), False, slack=apart)
            self.look("length", Length(0), Length(apart), False, slack=apart + 1)
            self.look("length", Length(0), Length(apart), True, slack=apart - 1)
        self.look("length", Length(5), Length(5), False, slack=0)

    def test_slack_is_of_lengths_alone(self):
        self.look("code", "X1", "X2", True, slack=10 ** 6)
        self.look("day", Day(1931), Day(1932), True, slack=10 ** 6)

    def test_by_place_and_by_name(self):
        entries = (entry(A, length=Length(1)), entry(B, length=Length(4)))
        self.assertEqual(clashes_in(NAMES, entries, 3), ())
        self.assertEqual(clashes_in(NAMES, entries, 2), ((A, B, "length"),))
        self.assertEqual(clashes_in(slack=3, entries=entries, names=NAMES), ())
        self.assertEqual(clashes_in(entries=entries, names=NAMES), ((A, B, "length"),))

    def test_all_fields_at_once_rise_as_texts(self):
        one = entry(A, "X1", REISE, (BACH,), Day(1931), Length(1))
        other = entry(B, "X2", ANDERE, (ELLA,), Day(1932), Length(2))
        wanted = tuple((A, B, field) for field in ("code", "day", "length", "players", "title"))
        self.assertEqual(clashes_in(NAMES, (one, other)), wanted)
        self.assertEqual(clashes_in(NAMES, (other, one)), wanted)

    def test_the_whole_rises_in_any_order_of_entries(self):
        entries = (entry(A, "X1", day=Day(1931)), entry(B, "X2"), entry(C, "X1", day=Day(1932)), entry(D, "X3"))
        wanted = ((A, B, "code"), (A, C, "day"), (A, D, "code"), (B, C, "code"), (B, D, "code"), (C, D, "code"))
        for turned in itertools.permutations(entries):
            told = clashes_in(NAMES, turned)
            self.assertEqual(told, wanted)
            self.assertIs(type(told), tuple)
            self.assertEqual({type(row) for row in told}, {tuple})

    def test_no_entries_and_one(self):
        self.assertEqual(clashes_in(NAMES, ()), ())
        self.assertEqual(clashes_in(NAMES, (entry(A, "X1"),)), ())

    def test_entries_of_no_common_take_clash_too(self):
        self.assertEqual(clashes_in(Names(), (entry(A, "X1"), entry(D, "X2"))), ((A, D, "code"),))

    def test_what_is_handed_in_is_unchanged(self):
        entries = (entry(B, "X1"), entry(A, "X2"))
        before = repr(entries)
        clashes_in(NAMES, entries)
        self.assertEqual(repr(entries), before)


if __name__ == "__main__":
    unittest.main()
