"""Point 3: the promise, (a) to (h), over small worlds drawn by hand."""

import itertools
import unittest

from takesworks.books import book_of, shows_none
from takesworks.customs import Custom
from takesworks.days import Day
from takesworks.desk import Desk
from takesworks.discs import Disc
from takesworks.lengths import Length
from takesworks.ordering import heights, most_in_order, shows_most
from takesworks.reading import read_day, read_disc, read_entry, read_length, read_listing, read_work
from takesworks.shelves import Shelf
from takesworks.showing import show_entry, show_work
from takesworks.takes import joined, shows_joined, shows_parted, takes
from takesworks.wishes import fewest_discs, shows_held
from made import book, entry, named
from worlds import all_told

REISE, VOYAGE, TRIP, ENDE = ("de", "Die Reise"), ("fr", "Le Voyage"), ("en", "The Trip"), ("de", "Ende")
BACH, ELLA, ELLE, ZOE = ("de", "Bach"), ("en", "Ella"), ("fr", "Elle"), ("it", "Zoe")
E1, E2, R1, R2, Z1 = ("emi", 1), ("emi", 2), ("rca", 1), ("rca", 2), ("zon", 1)
KEYS = (E1, E2, R1, R2, Z1)
RULES = (("code",), ("title", "day"))
# E1 and R1 by title and day, R1 and R2 by code, E2 and Z1 by a pair.
ENTRIES = (entry(E1, "A1", REISE, (BACH,), Day(1931, 4, 7), Length(187)), entry(E2, None, ENDE, (ELLA, ZOE), Day(1930)),
           entry(R1, "B7", VOYAGE, (BACH, ELLE), Day(1931, 4, 7), Length(190)), entry(R2, "B7", None, None, Day(1931, 4)),
           entry(Z1, "C9", TRIP, (ZOE,)))
ONES = ((REISE, VOYAGE), (ELLA, ELLE))
SAME = ((E2, Z1),)
DISCS = (Disc("red", (E1, Z1)), Disc("blue", (R2,)), Disc("gold", (("none", 0), E2)))


def shelf_so(entries=ENTRIES, ones=ONES, same=SAME, discs=DISCS):
    shelf = Shelf(RULES, 2)
    for one in entries:
        shelf.put(one)
    for pair in ones:
        shelf.one(*pair)
    for pair in same:
        shelf.same(*pair)
    for disc in discs:
        shelf.lay(disc)
    return shelf


class Whole(unittest.TestCase):
    def test_a_one_take_just_where_a_chain_leads(self):
        names = book(*ONES)
        self.assertEqual(takes(names, RULES, ENTRIES, SAME), ((E1, R1, R2), (E2, Z1)))
        self.assertEqual(shelf_so().takes(), ((E1, R1, R2), (E2, Z1)))
        for one, other in itertools.product(KEYS, KEYS):
            row = joined(names, RULES, ENTRIES, one, other, SAME)
            self.assertEqual(shelf_so().joined(one, other), row)
            take = [take for take in takes(names, RULES, ENTRIES, SAME) if one in take][0]
            self.assertIs(row is not None, other in take)
            self.assertIs(shows_joined(names, RULES, ENTRIES, one, other, row, SAME), other in take)
            self.assertIs(shows_parted(names, RULES, ENTRIES, one, other, take, SAME), other not in take)
        self.assertEqual(shelf_so().joined(E1, R2), (E1, R1, R2))

    def test_a_no_paper_is_taken_for_both(self):
        names = book(*ONES)
        for one, other in itertools.permutations(KEYS, 2):
            is_one = any(shows_joined(names, RULES, ENTRIES, one, other, thing, SAME)
                         for many in range(4) for thing in itertools.product(KEYS, repeat=many))
            is_parted = any(shows_parted(names, RULES, ENTRIES, one, other, thing, SAME)
                            for many in range(5) for thing in itertools.combinations(KEYS, many))
            self.assertNotEqual(is_one, is_parted)

    def test_b_the_most_parts_in_order(self):
        work = named("W", (REISE, (named("Hin"), named("Her"))), named("Mitte"), (ENDE, (named("Schluss"),)))
        names = book((REISE, VOYAGE))
        titles = (("de", "Mitte"), ("de", "Her"), VOYAGE, None, ("de", "Mitte"), TRIP, ENDE)
        self.assertEqual(most_in_order(work, titles, names), (4, (2, 4, 6), ()))
        self.assertEqual(most_in_order(work, titles), (3, (1, 4, 6), (0,)))
        self.assertEqual(heights(work, titles, names), (1, 1, 2, 0, 3, 0, 4))
        self.assertIs(shows_most(work, titles, 4, heights(work, titles, names), names), True)
        self.assertIs(shows_most(work, titles, 3, heights(work, titles, names), names), False)

    def test_c_rows_and_names_lead_to_each_other(self):
        shelf = shelf_so()
        self.assertEqual(shelf.leads("red", 0), ((E1, R1, R2), (REISE,), (BACH, ELLA)))
        self.assertEqual(shelf.leads("blue", 0), shelf.leads("red", 0))
        self.assertEqual(shelf.leads("red", 1), ((E2, Z1), (ENDE, TRIP), (ELLA, ZOE)))
        self.assertIsNone(shelf.leads("gold", 0))
        leading = {("blue", 0): (REISE, VOYAGE, BACH, ELLA, ELLE), ("red", 0): (REISE, VOYAGE, BACH, ELLA, ELLE),
                   ("red", 1): (ENDE, TRIP, ELLA, ELLE, ZOE), ("gold", 1): (ENDE, TRIP, ELLA, ELLE, ZOE)}
        for name in (REISE, VOYAGE, TRIP, ENDE, BACH, ELLA, ELLE, ZOE, ("de", "Niemand")):
            self.assertEqual(shelf.rows_of(name), tuple(sorted(row for row in leading if name in leading[row])))

    def test_d_lists_joined_in_any_order_and_groups(self):
        one, other, third = [read_listing(text) for text in (
            "emi 1 | code A1\nrca 1 | day 1931", "emi 1 | code A2 | long 3:07", "rca 1 | day 1931\nzon 1\nemi 1 | long 3:07")]
        whole = one.joined(other).joined(third)
        for first, second, last in itertools.permutations((one, other, third)):
            for told in (first.joined(second).joined(last), first.joined(second.joined(last)),
                         first.joined(second).joined(last).joined(first), first.joined(first).joined(second.joined(last))):
                self.assertEqual(told, whole)
                self.assertEqual((str(told), told.clashes()), (str(whole), whole.clashes()))
        self.assertEqual(whole.clashes(), (("emi", 1, "code"),))
        self.assertEqual(str(whole), "emi 1 | long 3:07\nrca 1 | day 1931\nzon 1")

    def test_e_what_is_undone_was_never_told(self):
        shelf = shelf_so()
        numbers = {"entry": 0, "one": 5, "same": 7, "disc": 8}
        told = {
            "entry": ((), (((E1, R1, R2), ((R1, R2),)),)),
            "one": ((((REISE, VOYAGE), ((REISE,), (VOYAGE,))),), (((E1, R1, R2), ((E1,), (R1, R2))),)),
            "same": ((), (((E2, Z1), ((E2,), (Z1,))),)),
            "disc": ((), ()),
        }
        never = {"entry": shelf_so(entries=ENTRIES[1:]), "one": shelf_so(ones=ONES[1:]), "same": shelf_so(same=()),
                 "disc": shelf_so(discs=DISCS[1:])}
        for what, number in numbers.items():
            shelf = shelf_so()
            self.assertEqual(shelf.leaning(number), told[what])
            self.assertEqual(all_told(shelf), all_told(shelf_so()))
            self.assertEqual(shelf.undo(number), told[what])
            self.assertEqual(all_told(shelf), all_told(never[what]))
        # An entry takes its pairs along.
        shelf = shelf_so()
        self.assertEqual(shelf.undo(1), ((), (((E2, Z1), ((Z1,),)),)))
        self.assertEqual(all_told(shelf), all_told(shelf_so(entries=ENTRIES[:1] + ENTRIES[2:], same=())))

    def test_e_what_something_else_holds_up_does_not_fall(self):
        shelf = shelf_so(same=(*SAME, (E1, R2)))
        self.assertEqual(shelf.leaning(5)[1], ())
        shelf.undo(8)
        self.assertNotEqual(shelf.leaning(5)[1], ())

    def test_f_who_played_when_and_with_whom(self):
        shelf = shelf_so()
        first, second = (E1, R1, R2), (E2, Z1)
        self.assertEqual(shelf.played(BACH), ((Day(1931, 4, 7), first, (ELLA,)),))
        for name in (ELLA, ELLE):
            self.assertEqual(shelf.played(name), ((Day(1930), second, (ZOE,)), (Day(1931, 4, 7), first, (BACH,))))
        self.assertEqual(shelf.played(ZOE), ((Day(1930), second, (ELLA,)),))
        self.assertEqual(shelf.played(REISE), ())

    def test_g_the_fewest_discs(self):
        shelf = shelf_so()
        self.assertEqual(shelf.discs_for((E1, E2)), ("fewest", ("red",)))
        self.assertEqual(shelf.discs_for((R1,)), ("fewest", ("blue",)))
        self.assertEqual(shelf.discs_for(KEYS), ("fewest", ("red",)))
        shelf.undo(8)
        self.assertEqual(shelf.discs_for(KEYS), ("fewest", ("blue", "gold")))
        shelf.undo(10)
        self.assertEqual(shelf.discs_for((R1, Z1, E2)), ("lacks", Z1))
        held, wishes = ((1, 2), (2, 3), (3, 4), (4, 1), (5,)), (1, 2, 3, 4, 5)
        self.assertEqual(fewest_discs(held, wishes), ("fewest", (0, 2, 4)))
        self.assertIs(shows_held(held, wishes, (0, 2, 4)), True)
        for many in range(6):
            told = book_of(held, wishes, many)
            self.assertIs(told is None, many >= 3)
            self.assertIs(shows_none(held, wishes, many, told), many < 3)
        self.assertIs(shows_none(held, wishes, 2, ("apart", (1, 3, 5))), True)
        self.assertIs(shows_none(held, wishes, 3, ("apart", (1, 3, 5))), False)

    def test_h_sorted_and_shown_by_a_custom_and_read_back(self):
        german = Custom((("a",), ("d",), ("e",), ("n",), ("r",), ("i",), ("s",), ("t",), ("h",), ("p",)), ("die", "le"))
        shelf = shelf_so()
        self.assertEqual(shelf.titles_in(german, "de"), ("Ende", "Reise, Die", "The Trip"))
        self.assertEqual(shelf.titles_in(german, "fr"), ("Voyage, Le", "Ende", "The Trip"))
        for text in shelf.titles_in(german, "de") + shelf.titles_in(german, "fr"):
            self.assertEqual(german.shown(german.read(text)), text)
        for text in ("Die Reise", "Le Voyage", "The Trip", "Die", "die die"):
            self.assertEqual(german.read(german.shown(text)), text)

    def test_h_what_is_written_is_read_as_it_was(self):
        for one in ENTRIES:
            self.assertEqual(read_entry(show_entry(one)), one)
            if one[5] is not None:
                self.assertEqual(read_day(str(one[5])), one[5])
            if one[6] is not None:
                self.assertEqual(read_length(str(one[6])), one[6])
        for disc in DISCS:
            self.assertEqual(read_disc(str(disc)), disc)
        work = named("W", (REISE, (named("Hin"), named("Her"))), named("Mitte"))
        self.assertEqual(read_work(show_work(work)), work)

    def test_at_a_desk(self):
        desk = Desk(RULES, 2)
        lines = [f"put {show_entry(one)}" for one in ENTRIES]
        lines += ["one de:Die Reise = fr:Le Voyage", "one en:Ella = fr:Elle", "same emi 2 = zon 1"]
        lines += [f"lay {disc}" for disc in DISCS]
        self.assertEqual([desk.say(line) for line in lines], [str(number) for number in range(11)])
        self.assertEqual(all_told(desk), all_told(shelf_so()))
        for line, answer in (("takes", "2"), ("why emi 1 = rca 2", "emi 1, rca 1, rca 2"), ("why emi 1 = zon 1", "no"),
                             ("rows it:Zoe", "gold 1, red 1"), ("played fr:Elle", "1930, 1931-04-07"), ("rows de:Hin", "-"),
                             ("for emi 1, emi 2", "fewest red"), ("clashes", "6"), ("undo 5", "1 1"), ("takes", "3"),
                             ("for emi 1, rca 1", "fewest blue red"), ("undo 9", "0 0"), ("for rca 2", "lacks rca 2")):
            self.assertEqual(desk.say(line), answer)

    def test_two_runs_tell_the_same(self):
        self.assertEqual(all_told(shelf_so()), all_told(shelf_so()))


if __name__ == "__main__":
    unittest.main()
