"""Point 21: Desk."""

import random
import unittest

from takesworks.days import Day
from takesworks.desk import Desk
from takesworks.discs import Disc
from takesworks.errors import NoKey, NoLine, NoNumber, NotSuch, Same, Struck, Twice
from takesworks.lengths import Length
from takesworks.shelves import Shelf
from takesworks.showing import show_entry
from made import entry
from things import nested, strangers, truths, tuples
from worlds import KEYS, NAMES, RULES, all_told, chance_deeds, shelf_of

CODES = (("code",),)
NO_TEXTS = [None, 0, 1, -1, 10 ** 29, *strangers(), *truths(), *tuples(), b"takes", ["takes"], ("takes",), {"takes": 1},
            Day(1931), nested(30, lambda inner: ("takes", inner))]
LINES = ("put emi 12 | code X | title de:Die Reise | by de:Bach, en:Ella | day 1931-04-07 | long 3:07",
         "put rca 3 | code X | title en:A Trip", "put rca 4", "lay disc ab: emi 12, rca 4", "lay disc c: rca 3",
         "one de:Die Reise = fr:Le Voyage", "same emi 12 = rca 4")
ASKED = ("undo 0", "takes", "why emi 12 = rca 3", "rows de:Die Reise", "played de:Bach", "for emi 12, rca 4", "clashes")


def desk_of(*lines, rules=CODES, slack=0):
    desk = Desk(rules, slack)
    for line in lines:
        desk.say(line)
    return desk


class Saying(unittest.TestCase):
    def look(self, desk, line, wanted):
        told = desk.say(line)
        self.assertEqual(told, wanted)
        self.assertIs(type(told), str)

    def refused(self, desk, line, kind=NoLine, value="line", thing=None):
        """Refused so; behind it nothing has changed."""
        before = all_told(desk)
        for told, given in (((line,), {}), ((), {"line": line})):
            with self.assertRaises(kind) as caught:
                desk.say(*told, **given)
            self.assertIs(type(caught.exception), kind)
            if kind is NoLine:
                self.assertIs(caught.exception.line, line)
            else:
                self.assertEqual(getattr(caught.exception, value), thing)
        self.assertEqual(all_told(desk), before)


class Forms(Saying):
    def test_a_desk_is_a_shelf(self):
        desk = Desk(CODES)
        self.assertIsInstance(desk, Shelf)
        self.look(desk, "put emi 12 | code X", "0")
        self.assertEqual(desk.put(entry(("rca", 3), "X")), 1)
        self.assertEqual(desk.takes(), ((("emi", 12), ("rca", 3)),))
        self.look(desk, "takes", "1")
        self.assertEqual(len(desk), 2)

    def test_by_name(self):
        desk = Desk(slack=3, rules=CODES)
        self.assertEqual(desk.say(line="put emi 12"), "0")
        self.assertEqual(Desk(rules=CODES).say(line="takes"), "0")

    def test_put_lay_one_same_tell_the_number(self):
        desk = Desk(CODES)
        for number, line in enumerate(LINES):
            self.look(desk, line, str(number))
        self.assertEqual(len(desk), 7)
        self.assertEqual(desk.entries()[0], entry(("emi", 12), "X", ("de", "Die Reise"), (("de", "Bach"), ("en", "Ella")),
                                                  Day(1931, 4, 7), Length(187)))
        self.assertEqual(desk.discs(), (Disc("ab", (("emi", 12), ("rca", 4))), Disc("c", (("rca", 3),))))
        self.assertEqual(desk.classes(), ((("de", "Die Reise"), ("fr", "Le Voyage")),))
        self.assertEqual(desk.takes(), ((("emi", 12), ("rca", 3), ("rca", 4)),))

    def test_numbers_of_two_figures(self):
        desk = Desk(CODES)
        for number in range(12):
            self.look(desk, f"put emi {number}", str(number))

    def test_told_again(self):
        desk = desk_of(*LINES)
        self.look(desk, LINES[5], "7")
        self.look(desk, "one fr:Le Voyage = de:Die Reise", "8")
        self.look(desk, LINES[6], "9")

    def test_undo(self):
        desk = desk_of(*LINES)
        self.look(desk, "undo 6", "0 1")
        self.look(desk, "undo 5", "1 0")
        self.look(desk, "undo 3", "0 0")
        self.look(desk, "undo 0", "0 1")
        self.look(desk, "undo 2", "0 1")
        self.assertEqual(len(desk), 2)
        desk = desk_of("put a 0 | title de:A", "put a 1 | title de:B", "put a 2 | title de:C", "one de:A = de:B",
                       rules=(("title",),))
        self.look(desk, "undo 3", "1 1")

    def test_takes(self):
        self.look(Desk(CODES), "takes", "0")
        self.look(desk_of(*LINES), "takes", "1")
        self.look(desk_of(*LINES[:6]), "takes", "2")

    def test_why(self):
        desk = desk_of(*LINES, "put z 0")
        self.look(desk, "why rca 3 = rca 4", "rca 3, emi 12, rca 4")
        self.look(desk, "why rca 4 = rca 3", "rca 4, emi 12, rca 3")
        self.look(desk, "why emi 12 = rca 3", "emi 12, rca 3")
        self.look(desk, "why emi 12 = emi 12", "emi 12")
        self.look(desk, "why emi 12 = z 0", "no")

    def test_rows(self):
        desk = desk_of(*LINES[:6])
        self.look(desk, "rows fr:Le Voyage", "ab 0, c 0")
        self.look(desk, "rows en:Ella", "ab 0, c 0")
        self.look(desk, "rows de:Niemand", "-")
        desk.say(LINES[6])
        self.look(desk, "rows de:Bach", "ab 0, ab 1, c 0")
        self.look(Desk(CODES), "rows de:Bach", "-")

    def test_played(self):
        desk = desk_of("put a 0 | by de:Bach | day 1931-04-07", "put a 1 | by de:Bach | day 1930", "put a 2 | by de:Bach",
                       "put a 3 | by de:Bach, en:Ella | day 1931-04", "put a 4 | by fr:Elle", "one en:Ella = fr:Elle")
        self.look(desk, "played de:Bach", "1930, 1931-04, 1931-04-07, -")
        self.look(desk, "played fr:Elle", "1931-04, -")
        self.look(desk, "played it:Zoe", "-")
        desk.say("undo 3")
        self.look(desk, "played fr:Elle", "-")
        self.look(Desk(CODES), "played de:Bach", "-")

    def test_for(self):
        desk = desk_of("put a 0", "put a 1", "put b 0 | code X", "put b 1 | code X", "put c 0", "lay disc z: a 0, b 1",
                       "lay disc y: a 1")
        self.look(desk, "for a 0", "fewest z")
        self.look(desk, "for a 0, b 0", "fewest z")
        self.look(desk, "for a 0, a 1", "fewest y z")
        self.look(desk, "for b 1, a 1, b 0, a 0, a 0", "fewest y z")
        self.look(desk, "for a 0, c 0", "lacks c 0")
        self.look(desk, "for c 0, c 0", "lacks c 0")

    def test_clashes(self):
        self.look(Desk(CODES), "clashes", "0")
        lines = ("put a 0 | code X | title de:A | long 0:10", "put a 1 | code X | title de:B | long 0:13")
        self.look(desk_of(*lines), "clashes", "2")
        self.look(desk_of(*lines, slack=2), "clashes", "2")
        self.look(desk_of(*lines, slack=3), "clashes", "1")
        self.look(desk_of(*lines, "one de:A = de:B", slack=3), "clashes", "0")

    def test_slack_left_out(self):
        for long, answer in (("0:10", "0"), ("0:11", "1")):
            desk = Desk(CODES)
            desk.say("put a 0 | code X | long 0:10")
            desk.say(f"put a 1 | code X | long {long}")
            self.look(desk, "clashes", answer)

    def test_as_the_shelf_tells(self):
        for seed in range(60):
            deeds = chance_deeds(seed, 14)
            desk, shelf = Desk(RULES, 1), Shelf(RULES, 1)
            for number, deed in enumerate(deeds):
                self.look(desk, line_of(deed), str(number))
            self.assertEqual(all_told(desk), all_told(shelf_of(deeds)))
            shelf = shelf_of(deeds)
            self.look(desk, "takes", str(len(shelf.takes())))
            self.look(desk, "clashes", str(len(shelf.clashes())))
            for tongue, text in NAMES:
                rows = [f"{label} {number}" for label, number in shelf.rows_of((tongue, text))]
                self.look(desk, f"rows {tongue}:{text}", ", ".join(rows) or "-")
                days = [str(day or "-") for day, _, _ in shelf.played((tongue, text))]
                self.look(desk, f"played {tongue}:{text}", ", ".join(days) or "-")
            number = random.Random(seed).randrange(len(deeds))
            self.look(desk, f"undo {number}", " ".join(str(len(part)) for part in shelf.undo(number)))
            self.assertEqual(all_told(desk), all_told(shelf))


def line_of(deed):
    """How a deed is said."""
    what, told = deed
    if what == "put":
        return f"put {show_entry(told[0])}"
    if what == "lay":
        return f"lay {told[0]}"
    sign = ":" if what == "one" else " "
    return f"{what} " + " = ".join(sign.join(map(str, pair)) for pair in told)


class NoLines(Saying):
    def test_what_is_no_text(self):
        desk = desk_of(*LINES)
        for thing in NO_TEXTS:
            self.refused(desk, thing)
        self.look(desk, "put z 0", "7")

    def test_other_words(self):
        desk = desk_of(*LINES)
        for line in ("", " ", "\n", "put", "lay", "one", "same", "undo", "why", "rows", "played", "for", "puts emi 1", "Put emi 1",
                     "PUT emi 1", "take", "Takes", "TAKES", "clash", "entries", "leads ab 0", "leaning 0", "len", "help",
                     "takes takes", "clashes 0", "takes 0", "say takes", "joined emi 12 = rca 3", "discs", "classes", "-"):
            self.refused(desk, line)

    def test_blanks_and_line_feeds(self):
        desk = desk_of(*LINES)
        for line in ("put z 0", "lay disc z: emi 12", "one de:A = de:B", "same emi 12 = rca 3", *ASKED):
            for changed in (" " + line, line + " ", line.replace(" ", "  ", 1) + " " * (" " not in line), "\n" + line,
                            line + "\n", line.replace(" ", "\n", 1) + "\n" * (" " not in line), line + "  ", "\t" + line):
                self.refused(desk, changed)
            for at, sign in enumerate(line):
                if sign == " ":
                    self.refused(desk, line[:at] + " " + line[at:])
        self.look(desk, "put z 0", "7")

    def test_put(self):
        desk = desk_of(*LINES)
        for rest in ("", "emi", "emi 012", "emi -1", "emi 13 | code x", "emi 13 | day 1931-02-29", "emi 13 | long 3:60", "Emi 13",
                     "emi 13 | by en:B, de:A", "emi 13 | code X | code X", "emi 13 | title de:A | code X", "emi 13 |",
                     "emi 13\nemi 14", "disc z: emi 12", "emi 12 | code x", "emi 13, emi 14"):
            self.refused(desk, f"put {rest}")

    def test_lay(self):
        desk = desk_of(*LINES)
        for rest in ("", "z: emi 12", "disc z:", "disc z", "disc z: emi", "disc Z: emi 12", "disc z: emi 12,rca 3", "disc ab: emi",
                     "disc z: emi 12, ", "disc z: " + ", ".join(["emi 12"] * 31), "emi 12"):
            self.refused(desk, f"lay {rest}")

    def test_one(self):
        desk = desk_of(*LINES)
        for rest in ("", "=", " = ", "de:A", "de:A =", "de:A = ", "= de:A", " = de:A", "de:A=de:B", "de:A= de:B", "de:A =de:B",
                     "de:A = B", "A = de:B", "de:A = de:B = de:C", "de:A == de:B", "de:A, de:B", "de:A de:B", "de:A = de:",
                     "de:A = de:B,", "emi 12 = rca 3", "de:A = dede:B", "de:A = de:" + "b" * 41):
            self.refused(desk, f"one {rest}")

    def test_same_and_why(self):
        desk = desk_of(*LINES)
        for word in ("same", "why"):
            for rest in ("", "=", " = ", "emi 12", "emi 12 =", "emi 12 = ", "= rca 3", "emi 12=rca 3", "emi 12 = rca", "emi = rca 3",
                         "emi 12 = rca 03", "emi 012 = rca 3", "emi 12 = rca -3", "Emi 12 = rca 3", "emi 12 = rca 3 = rca 4",
                         "emi 12, rca 3", "emi 12 rca 3", "de:A = de:B", "emi 12 = rca 3, rca 4", "emi 12 = abcdefghi 3",
                         "emi 12 = rca 3.0", "z 0 = rca", "rca = z 0"):
                self.refused(desk, f"{word} {rest}")

    def test_undo(self):
        desk = desk_of(*LINES)
        for rest in ("", "00", "01", "-1", "+1", "1.0", "1 2", "x", "True", "None", "0x1", "1_0", "1,", "#1", "one", "emi 12"):
            self.refused(desk, f"undo {rest}")

    def test_rows_and_played(self):
        desk = desk_of(*LINES)
        for word in ("rows", "played"):
            for rest in ("", "de", "de:", "Bach", "de: Bach", "de:Bach, en:Ella", "de:Bach = en:Ella", "De:Bach", "emi 12"):
                self.refused(desk, f"{word} {rest}")

    def test_for(self):
        desk = desk_of(*LINES)
        for rest in ("", ",", ", ", "emi", "12", "emi 12,", "emi 12, ", "emi 12,rca 3", "emi 12 , rca 3", "emi 12 rca 3", ", emi 12",
                     "emi 012", "emi 12, rca 03", "emi 12 = rca 3", "emi 12, , rca 3", "disc ab", "z 0, rca"):
            self.refused(desk, f"for {rest}")

    def test_numbers_of_many_figures(self):
        desk = desk_of(*LINES)
        for many in (31, 32, 4000, 4301, 5000):
            for figures in ("1" * many, "9" * many, "0" * many, "1" + "0" * (many - 1)):
                for line in (f"undo {figures}", f"put emi {figures}", f"lay disc z: emi {figures}", f"for emi {figures}",
                             f"same emi 12 = emi {figures}", f"same emi {figures} = emi 12", f"why emi {figures} = emi 12"):
                    self.refused(desk, line)
        big = 10 ** 30 - 1
        self.refused(desk, f"undo {big}", NoNumber, "number", big)
        self.refused(desk, f"for emi {big}", NoKey, "key", ("emi", big))
        self.look(desk, f"put emi {big}", "7")
        self.look(desk, f"lay disc z: emi {big}", "8")
        self.look(desk, f"why emi {big} = emi {big}", f"emi {big}")


class Refused(Saying):
    def test_as_the_shelf_refuses(self):
        desk = desk_of(*LINES)
        emi, rca, none = ("emi", 12), ("rca", 3), ("z", 0)
        self.refused(desk, "put emi 12", Twice, "thing", emi)
        self.refused(desk, "lay disc ab: rca 3", Twice, "thing", "ab")
        self.refused(desk, "one de:A = de:A", Same, "thing", ("de", "A"))
        self.refused(desk, "same z 0 = emi 12", NoKey, "key", none)
        self.refused(desk, "same emi 12 = z 0", NoKey, "key", none)
        self.refused(desk, "same z 0 = z 1", NoKey, "key", none)
        self.refused(desk, "same z 0 = z 0", NoKey, "key", none)
        self.refused(desk, "same rca 3 = rca 3", Same, "thing", rca)
        self.refused(desk, "undo 7", NoNumber, "number", 7)
        self.refused(desk, "why z 0 = emi 12", NoKey, "key", none)
        self.refused(desk, "why emi 12 = z 0", NoKey, "key", none)
        self.refused(desk, "for emi 12, z 0, z 1", NoKey, "key", none)
        desk.say("undo 4")
        self.refused(desk, "undo 4", Struck, "number", 4)
        self.look(desk, "put z 0", "7")

    def test_no_line_ahead_of_all(self):
        desk = desk_of(*LINES)
        for line in ("put emi 12 | code x", "lay disc ab: rca", "one de:A = de:A,", "same z 0 = z", "same z = z 0", "undo 07",
                     "why z 0 = emi", "for z 0, emi", "same rca 3 = rca 03"):
            self.refused(desk, line)

    def test_no_line_is_a_not_such(self):
        with self.assertRaises(NotSuch):
            Desk(CODES).say("x")

    def test_two_desks_stand_apart(self):
        one, other = Desk(CODES), Desk(CODES)
        one.say("put emi 12")
        self.look(other, "takes", "0")
        self.look(other, "put emi 12", "0")

    def test_keys_of_the_worlds(self):
        desk = desk_of(*[f"put {house} {number}" for house, number in KEYS])
        self.look(desk, "takes", str(len(KEYS)))


if __name__ == "__main__":
    unittest.main()
