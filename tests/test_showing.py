"""Point 20 where it speaks of what is written: show_entry, show_work."""

import itertools
import unittest

from takesworks.days import Day
from takesworks.lengths import Length
from takesworks.showing import show_entry, show_work
from made import entry

REISE = ("de", "Die Reise")
BACH, ELLA, ZOE = ("de", "J. S. Bach"), ("en", "Ella"), ("fra", "L'Orchestre 2-B")
KEY = ("emi", 12)


class ShowEntry(unittest.TestCase):
    TOLD = {
        "code": ("X12", " | code X12"),
        "title": (REISE, " | title de:Die Reise"),
        "players": ((BACH, ELLA), " | by de:J. S. Bach, en:Ella"),
        "day": (Day(1931, 4, 7), " | day 1931-04-07"),
        "length": (Length(187), " | long 3:07"),
    }

    def test_nothing_told(self):
        self.assertEqual(show_entry(entry(KEY)), "emi 12")

    def test_all_told(self):
        told = entry(KEY, "X12", REISE, (BACH, ELLA), Day(1931, 4, 7), Length(187))
        self.assertEqual(show_entry(told), "emi 12 | code X12 | title de:Die Reise | by de:J. S. Bach, en:Ella"
                                           " | day 1931-04-07 | long 3:07")

    def test_each_field_told_and_not(self):
        for many in range(6):
            for fields in itertools.combinations(self.TOLD, many):
                told = entry(KEY, **{field: self.TOLD[field][0] for field in fields})
                self.assertEqual(show_entry(told), "emi 12" + "".join(self.TOLD[field][1] for field in fields))

    def test_by_name(self):
        self.assertEqual(show_entry(entry=entry(KEY, "A")), "emi 12 | code A")

    def test_players(self):
        self.assertEqual(show_entry(entry(KEY, players=(BACH,))), "emi 12 | by de:J. S. Bach")
        self.assertEqual(show_entry(entry(KEY, players=(BACH, ELLA, ZOE))),
                         "emi 12 | by de:J. S. Bach, en:Ella, fra:L'Orchestre 2-B")
        eight = tuple(("de", f"P{number}") for number in range(8))
        self.assertEqual(show_entry(entry(KEY, players=eight)),
                         "emi 12 | by de:P0, de:P1, de:P2, de:P3, de:P4, de:P5, de:P6, de:P7")

    def test_days_and_lengths_as_str_tells(self):
        for day, text in ((Day(7), "0007"), (Day(1931, 4), "1931-04"), (Day(9999, 12, 31), "9999-12-31")):
            self.assertEqual(show_entry(entry(KEY, day=day)), f"emi 12 | day {text}")
        for seconds, text in ((0, "0:00"), (59, "0:59"), (359999, "5999:59")):
            self.assertEqual(show_entry(entry(KEY, length=Length(seconds))), f"emi 12 | long {text}")

    def test_numbers(self):
        for number, text in ((0, "0"), (7, "7"), (10, "10"), (10 ** 29, "1" + "0" * 29), (10 ** 30 - 1, "9" * 30)):
            self.assertEqual(show_entry(entry(("a", number))), f"a {text}")

    def test_a_code_of_figures(self):
        self.assertEqual(show_entry(entry(("abcdefgh", 0), "007")), "abcdefgh 0 | code 007")


class ShowWork(unittest.TestCase):
    def test_without_parts(self):
        self.assertEqual(show_work((REISE, ())), "de:Die Reise")
        self.assertEqual(show_work(work=(ZOE, ())), "fra:L'Orchestre 2-B")

    def test_two_deep(self):
        self.assertEqual(show_work((REISE, ((BACH, ()), (ELLA, ())))), "de:Die Reise\n  de:J. S. Bach\n  en:Ella")

    def test_one_to_five_deep(self):
        names = [("de", f"N{number}") for number in range(5)]
        for deep in range(1, 6):
            work = (names[deep - 1], ())
            for name in names[:deep - 1][::-1]:
                work = (name, (work,))
            self.assertEqual(show_work(work), "\n".join("  " * at + f"de:N{at}" for at in range(deep)))

    def test_a_work_ahead_of_its_parts(self):
        def named(text, *parts):
            return (("de", text), parts)
        work = named("W", named("A", named("A1"), named("A2", named("A2a"))), named("B"), named("C", named("C1")))
        self.assertEqual(show_work(work).split("\n"), ["de:W", "  de:A", "    de:A1", "    de:A2", "      de:A2a",
                                                       "  de:B", "  de:C", "    de:C1"])

    def test_forty_parts(self):
        names = [("de", f"N{number}") for number in range(40)]
        work = (names[0], tuple((name, ()) for name in names[1:]))
        self.assertEqual(show_work(work), "\n".join(["de:N0"] + [f"  de:N{number}" for number in range(1, 40)]))

    def test_what_is_handed_in_is_unchanged(self):
        work = (REISE, ((BACH, ()), (ELLA, ())))
        show_work(work)
        self.assertEqual(work, (REISE, ((BACH, ()), (ELLA, ()))))


if __name__ == "__main__":
    unittest.main()
