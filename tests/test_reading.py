"""Point 20 and (h) of point 3: the readers."""

import itertools
import random
import unittest

from takesworks.days import Day
from takesworks.discs import Disc
from takesworks.errors import NotSuch, NoText
from takesworks.lengths import Length
from takesworks.listings import Listing
from takesworks.reading import (read_day, read_disc, read_entry, read_length, read_listing, read_name, read_work)
from takesworks.showing import show_entry, show_work
from takesworks.works import is_work
from made import chain_of_works, chance_work, entry, named
from things import nested, strangers, truths, tuples
from worlds import KEYS, chance_entry

REISE, BACH, ELLA = ("de", "Die Reise"), ("de", "J. S. Bach"), ("en", "Ella")
READERS = {"day": read_day, "length": read_length, "name": read_name, "entry": read_entry, "disc": read_disc,
           "work": read_work}
WRITTEN = {
    "day": "1931-04-07",
    "length": "13:07",
    "name": "de:Die Reise",
    "entry": "emi 12 | code X12 | title de:Die Reise | by de:J. S. Bach, en:Ella | day 1931-04-07 | long 3:07",
    "disc": "disc ab: emi 12, rca 3",
    "work": "de:W\n  de:A\n    de:A1\n  de:B",
}
NO_TEXTS = [None, 0, 1, -1, 10 ** 29, *strangers(), *truths(), *tuples(), b"1931", ["1931"], ("1931",), Day(1931), Length(1),
            Listing(), REISE, entry(("emi", 12)), named("W")]
SIGNS = [chr(number) for number in range(32, 127)] + ["\n"]


def shown(thing):
    """How a thing that a reader told is written."""
    if isinstance(thing, (Day, Length, Disc)):
        return str(thing)
    if len(thing) == 7:
        return show_entry(thing)
    return show_work(thing) if isinstance(thing[1], tuple) else ":".join(thing)


class Reading(unittest.TestCase):
    def refused(self, reader, text, wanted, row=0):
        for told, given in (((text,), {}), ((), {"text": text})):
            with self.assertRaises(NoText) as caught:
                reader(*told, **given)
            self.assertIs(type(caught.exception), NoText)
            self.assertIsInstance(caught.exception, NotSuch)
            self.assertEqual((caught.exception.row, caught.exception.wanted), (row, wanted))
            self.assertIs(type(caught.exception.row), int)

    def look(self, reader, text, wanted):
        for told in (reader(text), reader(text=text)):
            self.assertEqual(told, wanted)
            self.assertIs(type(told), type(wanted))


class OfAnything(Reading):
    def test_what_is_no_text(self):
        for thing in [*NO_TEXTS, nested(30, lambda inner: {"a": inner}), nested(30, lambda inner: (inner, inner))]:
            for wanted, reader in READERS.items():
                self.refused(reader, thing, wanted)
            self.refused(read_listing, thing, "entry")

    def test_an_empty_text(self):
        for wanted, reader in READERS.items():
            self.refused(reader, "", wanted)

    def test_a_sign_more_fewer_exchanged(self):
        for wanted, reader in READERS.items():
            text = WRITTEN[wanted]
            self.assertEqual(shown(reader(text)), text)
            for at in range(len(text) + 1):
                changed = {text[:at] + text[at + 1:]}
                for sign in SIGNS:
                    changed |= {text[:at] + sign + text[at:], text[:at] + sign + text[at + 1:]}
                for other in changed:
                    self.read_or_refused(reader, other, wanted)

    def read_or_refused(self, reader, text, wanted):
        """What is read is written just so; all else is refused, by all but a work's reader with row 0."""
        try:
            told = reader(text)
        except NoText as refusal:
            self.assertEqual(refusal.wanted, wanted)
            if wanted != "work":
                self.assertEqual(refusal.row, 0)
            return
        self.assertEqual(shown(told), text)

    def test_by_chance(self):
        chance = random.Random(20)
        pieces = ["de", ":", " ", "  ", "\n", "A", "emi", "12", "0", "07", " | ", "code X", "title ", "by ", ", ", "day ",
                  "long ", "1931", "-04", "3:07", "disc ", "ab", ": "]
        for _ in range(6000):
            text = "".join(chance.choice(pieces) for _ in range(chance.randrange(1, 9)))
            for wanted, reader in READERS.items():
                self.read_or_refused(reader, text, wanted)

    def test_thousands_of_signs(self):
        for text in ("a" * 6000, "1" * 6000, " " * 6000, "\n" * 6000, "de:" * 2000, " | " * 2000, "-" * 6000, ", " * 3000):
            for wanted, reader in READERS.items():
                self.refused(reader, text, wanted)
            self.refused(read_listing, text, "entry")


class Days(Reading):
    def test_as_str_writes(self):
        for year, month in itertools.product((1, 7, 10, 100, 999, 1931, 1932, 9999), range(1, 13)):
            for day in (Day(year), Day(year, month), Day(year, month, 1), Day(year, month, 28)):
                self.look(read_day, str(day), day)
        for text, day in (("1932-02-29", Day(1932, 2, 29)), ("2000-02-29", Day(2000, 2, 29)), ("0001", Day(1)),
                          ("9999-12-31", Day(9999, 12, 31)), ("1931-04", Day(1931, 4)), ("1931", Day(1931))):
            self.look(read_day, text, day)

    def test_days_that_are_none(self):
        for text in ("0000", "0000-01-01", "1931-00", "1931-13", "1931-04-00", "1931-04-31", "1931-02-29", "1900-02-29",
                     "1932-02-30", "1931-12-32", "1931-00-07", "1931-99-99"):
            self.refused(read_day, text, "day")

    def test_not_so_written(self):
        for text in ("931", "01931", "19310", "1931-4", "1931-4-7", "1931-04-7", "1931-4-07", "1931-004", "1931-04-007",
                     "1931-", "1931-04-", "-1931", "1931--04", "1931-04-07-", "1931-04-07-01", "1931 04", "1931/04",
                     " 1931", "1931 ", "1931\n", "\n1931", "1931-04\n", "+1931", "-931", "19_1", "1931-0x", "193a", "19.1",
                     "1931-04 -07", "1931- 4", "1" * 31, "1" * 4000, "1931-" + "0" * 4000, "07-04-1931"):
            self.refused(read_day, text, "day")


class Lengths(Reading):
    def test_as_str_writes(self):
        for seconds in [*range(700), 3599, 3600, 36000, 359998, 359999]:
            self.look(read_length, str(Length(seconds)), Length(seconds))
        self.look(read_length, "0:00", Length(0))
        self.look(read_length, "5999:59", Length(359999))

    def test_not_so_written(self):
        for text in ("6000:00", "9999:59", "3:60", "3:99", "3:7", "3:007", "03:07", "00:07", ":07", "3:", "3", "307", "3:07:00",
                     "0:3:07", "3 :07", "3: 7", " 3:07", "3:07 ", "3:07\n", "\n3:07", "+3:07", "-3:07", "3:+7", "3:-7", "3.07",
                     "3:0x", "x:07", "3:0_", "1_0:07", "0" * 30 + ":07", "1" * 30 + ":07", "1" * 31 + ":07", "1" * 4000 + ":07",
                     "3:" + "0" * 4000):
            self.refused(read_length, text, "length")


class NamesRead(Reading):
    def test_as_written(self):
        for tongue, text in (("de", "Die Reise"), ("fra", "L'Orchestre 2-B."), ("en", "A"), ("en", "a" * 40), ("it", "0"),
                             ("de", "J. S. Bach"), ("de", "-"), ("de", "'"), ("de", "a b c d")):
            self.look(read_name, f"{tongue}:{text}", (tongue, text))

    def test_not_so_written(self):
        for text in ("de", "de:", ":Die Reise", "de Die Reise", "de: Die Reise", "de:Die Reise ", "de:Die  Reise", " de:A",
                     "d:A", "dede:A", "De:A", "DE:A", "d1:A", "de :A", "de::A", "de:A:B", "de:A,B", "de:A|B", "de:A=B",
                     "de:A\n", "\nde:A", "de:A\nB", "de:" + "a" * 41, "de:A_B", "de:(A)", "de:\\"):
            self.refused(read_name, text, "name")


class Entries(Reading):
    TOLD = {"code": ("X12", "code X12"), "title": (REISE, "title de:Die Reise"),
            "players": ((BACH, ELLA), "by de:J. S. Bach, en:Ella"), "day": (Day(1931, 4, 7), "day 1931-04-07"),
            "length": (Length(187), "long 3:07")}

    def test_each_field_told_and_not(self):
        for many in range(6):
            for fields in itertools.combinations(self.TOLD, many):
                told = entry(("emi", 12), **{field: self.TOLD[field][0] for field in fields})
                text = " | ".join(["emi 12"] + [self.TOLD[field][1] for field in fields])
                self.assertEqual(show_entry(told), text)
                self.look(read_entry, text, told)

    def test_as_show_entry_writes(self):
        chance = random.Random(3)
        for _ in range(300):
            told = chance_entry(chance, chance.choice(KEYS))
            self.look(read_entry, show_entry(told), told)

    def test_numbers(self):
        for number in (0, 7, 10, 100, 10 ** 29, 10 ** 30 - 1):
            self.look(read_entry, f"a {number}", entry(("a", number)))
        for figures in ("00", "01", "007", "+1", "-1", "-0", "1_0", "1.0", "0x1", "", "1" * 31, "0" * 31, "1" * 4000,
                        "1" * 4301, "1" * 5900, "9" * 31, "1" + "0" * 30, "one", "1 1"):
            self.refused(read_entry, f"a {figures}", "entry")

    def test_eight_players(self):
        players = tuple(("de", f"P{number}") for number in range(9))
        text = ", ".join(f"de:P{number}" for number in range(9))
        self.look(read_entry, "a 0 | by " + text[:-7], entry(("a", 0), players=players[:8]))
        self.refused(read_entry, "a 0 | by " + text, "entry")

    def test_fields_out_of_order(self):
        pieces = [text for _, text in self.TOLD.values()]
        for many in range(2, 6):
            for some in itertools.permutations(pieces, many):
                text = " | ".join(["emi 12", *some])
                if [piece for piece in pieces if piece in some] == list(some):
                    self.assertEqual(show_entry(read_entry(text)), text)
                else:
                    self.refused(read_entry, text, "entry")

    def test_fields_twice(self):
        for _, text in self.TOLD.values():
            self.refused(read_entry, f"emi 12 | {text} | {text}", "entry")
        self.refused(read_entry, "emi 12 | code X | code Y", "entry")
        self.refused(read_entry, "emi 12 | code X | day 1931 | code X", "entry")

    def test_fields_empty_or_of_no_such_word(self):
        for piece in ("code", "code ", "title", "title ", "by", "by ", "day", "day ", "long", "long ", "", " ", "players de:A",
                      "length 3:07", "Code X", "CODE X", "codeX", "code  X", "title  de:A", "by  de:A", "day  1931", "long  3:07",
                      "by de:A,", "by de:A, ", "by , de:A", "by de:A,de:B", "by de:A ,de:B", "by de:A,  de:B", "by de:A, B"):
            self.refused(read_entry, f"emi 12 | {piece}", "entry")
            self.refused(read_entry, f"emi 12 | {piece} | long 3:07", "entry")

    def test_things_that_are_none(self):
        for piece in ("code x", "code X-1", "code X Y", "code " + "A" * 13, "title Reise", "title de:", "title de:A, de:B",
                      "day 1931-02-29", "day 31", "day 1931-4", "long 3:60", "long 187", "long 6000:00"):
            self.refused(read_entry, f"emi 12 | {piece}", "entry")

    def test_players_not_rising(self):
        self.look(read_entry, "a 0 | by de:A, de:B", entry(("a", 0), players=(("de", "A"), ("de", "B"))))
        for players in ("de:B, de:A", "de:A, de:A", "en:A, de:B", "de:A, de:C, de:B", "de:b, de:B"):
            self.refused(read_entry, f"a 0 | by {players}", "entry")

    def test_houses_that_are_none(self):
        for house in ("", "A", "Emi", "abcdefghi", "a1", "a-b", "a b", "disc ab:"):
            self.refused(read_entry, f"{house} 12", "entry")

    def test_blanks_and_line_feeds(self):
        for text in (" emi 12", "emi 12 ", "emi  12", "emi12", "emi", "12", "emi 12 |", "emi 12 | ", "| emi 12", "emi 12|code X",
                     "emi 12 |code X", "emi 12| code X", "emi 12  | code X", "emi 12 |  code X", "emi 12 | code X ",
                     "emi 12 | | code X", "emi 12\n", "\nemi 12", "emi\n12", "emi 12\nemi 13", "emi 12 | code X\n",
                     "emi 12 || code X", "emi 12 | code X |", "emi 12 | code X | "):
            self.refused(read_entry, text, "entry")


class Discs(Reading):
    def test_as_str_writes(self):
        for disc in (Disc("ab", (("emi", 12),)), Disc("a", (("rca", 3), ("emi", 12), ("rca", 3))),
                     Disc("abcdefgh", (("emi", 0),) * 30), Disc("z", (("abcdefgh", 10 ** 30 - 1), ("a", 10 ** 29))),
                     Disc("disc", (("disc", 1),))):
            self.look(read_disc, str(disc), disc)
        self.look(read_disc, "disc ab: emi 12, rca 3", Disc("ab", (("emi", 12), ("rca", 3))))

    def test_rows_too_few_and_too_many(self):
        for many in (30, 31):
            text = "disc ab: " + ", ".join(["emi 1"] * many)
            if many == 30:
                self.assertEqual(len(read_disc(text)), 30)
            else:
                self.refused(read_disc, text, "disc")
        for text in ("disc ab:", "disc ab: ", "disc ab", "disc", "disc "):
            self.refused(read_disc, text, "disc")

    def test_not_so_written(self):
        for text in ("ab: emi 12", "disc: emi 12", "disc : emi 12", "disc  ab: emi 12", " disc ab: emi 12", "disc ab : emi 12",
                     "disc ab:emi 12", "disc ab:  emi 12", "disc ab: emi 12 ", "disc ab: emi 12,", "disc ab: emi 12, ",
                     "disc ab: emi 12,rca 3", "disc ab: emi 12 , rca 3", "disc ab: emi 12,  rca 3", "disc ab: emi  12",
                     "disc ab: emi", "disc ab: 12", "disc ab: emi 012", "disc ab: emi -1", "disc ab: emi 12 rca 3",
                     "disc Ab: emi 12", "disc abcdefghi: emi 12", "disc a1: emi 12", "Disc ab: emi 12", "disc ab: Emi 12",
                     "disc ab: emi 12\n", "disc ab:\nemi 12", "disc ab: emi 12,\nrca 3", "disc ab: emi 12: rca 3",
                     "disc disc ab: emi 12", "discab: emi 12", "disc ab: emi 12; rca 3", "disc ab, emi 12",
                     "disc ab: emi " + "1" * 31, "disc ab: emi " + "1" * 4000):
            self.refused(read_disc, text, "disc")


class Works(Reading):
    def rows(self, *rows):
        """A text with a row for each pair of how deep it stands and a text."""
        return "\n".join("  " * deep + f"de:{text}" for deep, text in rows)

    def test_as_show_work_writes(self):
        for seed in range(200):
            work = chance_work(seed, 1 + seed % 40)
            self.look(read_work, show_work(work), work)

    def test_one_to_five_deep(self):
        for deep in range(1, 6):
            self.look(read_work, show_work(chain_of_works(deep)), chain_of_works(deep))

    def test_forty_parts(self):
        work = named("W", *[named(f"P{number}") for number in range(39)])
        self.look(read_work, show_work(work), work)

    def test_back_by_several(self):
        text = self.rows((0, "W"), (1, "A"), (2, "B"), (3, "C"), (4, "D"), (1, "E"), (2, "F"), (1, "G"))
        self.look(read_work, text, named("W", named("A", named("B", named("C", named("D")))), named("E", named("F")),
                                         named("G")))

    def test_too_deep_by_one(self):
        self.refused(read_work, self.rows((1, "W")), "work", 0)
        self.refused(read_work, self.rows((0, "W"), (2, "A")), "work", 1)
        self.refused(read_work, self.rows((0, "W"), (1, "A"), (3, "B")), "work", 2)
        self.refused(read_work, self.rows((0, "W"), (1, "A"), (2, "B"), (1, "C"), (3, "D")), "work", 4)

    def test_a_second_first_row(self):
        self.refused(read_work, self.rows((0, "W"), (0, "A")), "work", 1)
        self.refused(read_work, self.rows((0, "W"), (1, "A"), (2, "B"), (0, "C")), "work", 3)

    def test_six_deep(self):
        rows = [(deep, f"D{deep}") for deep in range(6)]
        self.refused(read_work, self.rows(*rows), "work", 5)
        self.refused(read_work, show_work(chain_of_works(7)), "work", 5)
        self.refused(read_work, self.rows(*rows[:5], (1, "A"), (2, "B"), (3, "C"), (4, "D"), (5, "E")), "work", 9)

    def test_a_name_twice(self):
        texts = [(0, "W"), (1, "A"), (2, "B"), (1, "C"), (2, "D"), (3, "E"), (1, "F")]
        for one, other in itertools.combinations(range(7), 2):
            rows = list(texts)
            rows[other] = (rows[other][0], rows[one][1])
            self.refused(read_work, self.rows(*rows), "work", other)

    def test_one_blank_too_few_or_too_many(self):
        lines = WRITTEN["work"].split("\n")
        for at, line in enumerate(lines):
            for changed in [" " + line] + [line[1:]] * line.startswith(" "):
                self.refused(read_work, "\n".join([*lines[:at], changed, *lines[at + 1:]]), "work", at)

    def test_rows_that_are_no_names(self):
        lines = WRITTEN["work"].split("\n")
        for at, line in enumerate(lines):
            for changed in ("", " ", "  ", line + " ", line + ":", line.replace(":", ""), line.replace("de", "d"), line + ",",
                            line.replace(":", ": "), "\t" + line.strip(), line.replace("de:", "de:" + "a" * 40)):
                self.refused(read_work, "\n".join([*lines[:at], changed, *lines[at + 1:]]), "work", at)

    def test_line_feeds(self):
        text = WRITTEN["work"]
        self.refused(read_work, text + "\n", "work", 4)
        self.refused(read_work, text + "\n\n", "work", 4)
        self.refused(read_work, "\n" + text, "work", 0)
        self.refused(read_work, text.replace("\n", "\n\n", 1), "work", 1)
        self.refused(read_work, "\n", "work", 0)
        self.refused(read_work, text.replace("\n", "\r\n"), "work", 0)

    def test_the_first_of_several_rows(self):
        self.refused(read_work, self.rows((0, "W"), (2, "A"), (0, "W"), (5, "B")), "work", 1)
        self.refused(read_work, self.rows((0, "W"), (1, "A"), (1, "A")) + "\nx\n", "work", 2)
        self.refused(read_work, self.rows((0, "W"), (1, "A")) + "\nx\n" + self.rows((0, "W")), "work", 2)

    def test_what_is_read_is_a_work_with_just_these_rows(self):
        chance = random.Random(14)
        read = 0
        for _ in range(4000):
            rows = [(chance.randrange(4) if at else 0, chance.choice("ABCDEFGH")) for at in range(chance.randrange(1, 6))]
            text = self.rows(*rows)
            bad = [at for at in range(len(rows)) if not is_work_text(rows[:at + 1])]
            if bad:
                self.refused(read_work, text, "work", bad[0])
            else:
                work = read_work(text)
                self.assertTrue(is_work(work))
                self.assertEqual(show_work(work), text)
                read += 1
        self.assertGreater(read, 300)


def is_work_text(rows):
    """Whether a work has these rows: each part but the first stands in the last one ahead that is less deep by one."""
    texts = [text for _, text in rows]
    return len(set(texts)) == len(texts) and all(1 <= deep <= rows[at][0] + 1 for at, (deep, _) in enumerate(rows[1:]))


class Listings(Reading):
    ROWS = ("emi 12 | code X12", "rca 3", "emi 2 | title de:Die Reise | day 1931", "rca 3 | long 3:07", "emi 12 | code X13")

    def test_none_of_an_empty_text(self):
        self.look(read_listing, "", Listing())
        self.assertEqual(len(read_listing("")), 0)

    def test_rows_in_any_order_a_key_twice_too(self):
        for many in range(1, 6):
            for rows in itertools.permutations(self.ROWS, many):
                listing = read_listing("\n".join(rows))
                self.assertEqual(listing, Listing(tuple(read_entry(row) for row in rows)))
        listing = read_listing(text="\n".join(self.ROWS))
        self.assertEqual(len(listing), 3)
        self.assertEqual(listing.told("emi", 12, "code"), ["X12", "X13"])
        self.assertEqual(listing.clashes(), (("emi", 12, "code"),))

    def test_a_row_twice(self):
        self.look(read_listing, "rca 3\nrca 3", Listing((entry(("rca", 3)),)))

    def test_as_str_writes(self):
        chance = random.Random(9)
        for many in range(6):
            listing = Listing(tuple(chance_entry(chance, key) for key in KEYS[:many]))
            self.look(read_listing, str(listing), listing)

    def test_the_first_row_that_is_not_so_written(self):
        for at in range(5):
            for bad in ("", " ", "rca", "rca 03", "rca 3 ", " rca 3", "rca 3 | code x", "disc ab: rca 3", "rca 3 | day 1931-02-29",
                        "rca " + "1" * 31):
                rows = [*self.ROWS[:at], bad, *self.ROWS[at:]]
                self.refused(read_listing, "\n".join(rows), "entry", at)
                self.refused(read_listing, "\n".join([*rows, "x", ""]), "entry", at)

    def test_line_feeds(self):
        self.refused(read_listing, "rca 3\n", "entry", 1)
        self.refused(read_listing, "\nrca 3", "entry", 0)
        self.refused(read_listing, "rca 3\n\nrca 4", "entry", 1)
        self.refused(read_listing, "\n", "entry", 0)
        self.refused(read_listing, "rca 3\r\nrca 4", "entry", 0)


if __name__ == "__main__":
    unittest.main()
