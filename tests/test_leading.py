"""Points 17 and 19, and (c) and (f) of point 3: where rows lead, and back; who played; titles; discs for a list."""

import itertools
import unittest

from takesworks.customs import Custom
from takesworks.days import Day, by_day, earliest, latest
from takesworks.discs import Disc
from takesworks.errors import NoKey
from takesworks.shelves import Shelf
from made import entry
from things import anything, nested
from worlds import CUSTOM, KEYS, LABELS, NAMES, as_worded, chance_deeds, shelf_of, without

A, B, C, D, E = ("a", 0), ("a", 1), ("b", 0), ("b", 1), ("c", 0)
REISE, VOYAGE, TRIP, ENDE = ("de", "Die Reise"), ("fr", "Le Voyage"), ("en", "A Trip"), ("de", "Ende")
BACH, ELLA, ELLE, ZOE = ("de", "Bach"), ("en", "Ella"), ("fr", "Elle"), ("it", "Zoe")
CODES = (("code",),)
NO_KEYS = [*anything(), ["a", 0], ("a",), ("a", 0, 0), ("a", False), ("a", True), ("a", -1), ("a", 7), ("z", 0), ("A", 0),
           ("a", "0"), ("a", None), ("a", [0]), (("a", 0),), ("a", 10 ** 29), "a 0"]


def shelf_with(entries=(), ones=(), discs=(), rules=CODES):
    """A shelf to which entries, pairs of names and discs are told, in this order."""
    shelf = Shelf(rules)
    for one in entries:
        shelf.put(one)
    for pair in ones:
        shelf.one(*pair)
    for disc in discs:
        shelf.lay(disc)
    return shelf


def small():
    """A and B are one take; C is one alone; D tells nothing; E is no entry."""
    return shelf_with(
        (entry(A, "X", REISE, (BACH, ELLA)), entry(B, "X", TRIP), entry(C, "Y", VOYAGE, (ELLE,)), entry(D)),
        ((VOYAGE, REISE), (ELLE, ELLA)), (Disc("m", (B, E, C)), Disc("ab", (D, A, A))))


class Leads(unittest.TestCase):
    def look(self, shelf, label, number, wanted):
        told = shelf.leads(label, number)
        self.assertEqual(told, wanted)
        self.assertEqual(shelf.leads(number=number, label=label), wanted)
        if told is not None:
            self.assertEqual({type(part) for part in (told, *told)}, {tuple})

    def test_each_row(self):
        first = ((A, B), (REISE, TRIP), (BACH, ELLA))
        shelf = small()
        self.look(shelf, "m", 0, first)
        self.look(shelf, "m", 2, ((C,), (REISE,), (ELLA,)))
        self.look(shelf, "ab", 0, ((D,), (), ()))
        self.look(shelf, "ab", 1, first)
        self.look(shelf, "ab", 2, first)

    def test_a_key_without_an_entry(self):
        shelf = small()
        self.look(shelf, "m", 1, None)
        shelf.put(entry(E, title=ENDE))
        self.look(shelf, "m", 1, ((E,), (ENDE,), ()))
        shelf.undo(8)
        self.look(shelf, "m", 1, None)

    def test_no_such_row_or_disc(self):
        shelf = small()
        for number in (3, 4, -1, -2, -3, 10 ** 29, -(10 ** 29)):
            self.look(shelf, "m", number, None)
        for label in ("n", "a", "abc", "", "M", "m "):
            self.look(shelf, label, 0, None)
        self.look(Shelf(CODES), "m", 0, None)

    def test_labels_and_numbers_of_any_kind(self):
        shelf = small()
        for thing in [*anything(), ["m"], ("m",), b"m", {"m": 0}, nested(30, lambda inner: ("m", inner))]:
            self.look(shelf, thing, 0, None)
            self.look(shelf, thing, thing, None)
            if type(thing) is not int or thing not in (0, 1):
                self.look(shelf, "m", thing, None)
                self.look(shelf, "ab", thing, None)

    def test_truths_for_numbers(self):
        self.look(small(), "ab", True, None)
        self.look(small(), "ab", False, None)

    def test_names_that_become_one_and_part_again(self):
        shelf = small()
        number = shelf.one(BACH, ZOE)
        shelf.one(REISE, TRIP)
        self.look(shelf, "m", 0, ((A, B), (REISE,), (BACH, ELLA)))
        shelf.one(BACH, ELLE)
        self.look(shelf, "m", 0, ((A, B), (REISE,), (BACH,)))
        shelf.undo(number + 2)
        self.look(shelf, "m", 0, ((A, B), (REISE,), (BACH, ELLA)))
        shelf.undo(number + 1)
        self.look(shelf, "m", 0, ((A, B), (REISE, TRIP), (BACH, ELLA)))

    def test_the_least_name_of_a_class_that_no_entry_tells(self):
        shelf = shelf_with((entry(A, title=VOYAGE, players=(ZOE,)),), ((VOYAGE, ENDE), (ZOE, BACH)), (Disc("m", (A,)),))
        self.look(shelf, "m", 0, ((A,), (ENDE,), (BACH,)))

    def test_a_disc_that_is_undone(self):
        shelf = small()
        shelf.undo(6)
        self.look(shelf, "m", 0, None)
        shelf.lay(Disc("m", (D,)))
        self.look(shelf, "m", 0, ((D,), (), ()))


class RowsOf(unittest.TestCase):
    def look(self, shelf, name, wanted):
        told = shelf.rows_of(name)
        self.assertEqual(told, wanted)
        self.assertIs(type(told), tuple)
        self.assertEqual(shelf.rows_of(name=name), wanted)

    def test_titles_and_players(self):
        shelf = small()
        self.look(shelf, TRIP, (("ab", 1), ("ab", 2), ("m", 0)))
        self.look(shelf, BACH, (("ab", 1), ("ab", 2), ("m", 0)))

    def test_names_that_are_one_with_others(self):
        shelf = small()
        for name in (REISE, VOYAGE, ELLA, ELLE):
            self.look(shelf, name, (("ab", 1), ("ab", 2), ("m", 0), ("m", 2)))
        shelf.one(ZOE, ("de", "Niemand"))
        self.look(shelf, ZOE, ())
        shelf.one(ZOE, BACH)
        for name in (ZOE, ("de", "Niemand")):
            self.look(shelf, name, (("ab", 1), ("ab", 2), ("m", 0)))

    def test_a_title_in_one_a_player_in_another(self):
        shelf = shelf_with((entry(A, title=BACH), entry(B, players=(BACH,))), (), (Disc("m", (A, B)),))
        self.look(shelf, BACH, (("m", 0), ("m", 1)))

    def test_none(self):
        shelf = small()
        for name in (ZOE, ENDE, ("de", "Reise")):
            self.look(shelf, name, ())
        self.look(Shelf(CODES), REISE, ())
        shelf.undo(6)
        shelf.undo(7)
        self.look(shelf, REISE, ())

    def test_rows_rise_as_numbers(self):
        rows = tuple(A if number in (2, 10) else D for number in range(12))
        shelf = shelf_with((entry(A, title=ENDE), entry(D)), (), (Disc("b", rows), Disc("ab", (A,))))
        self.look(shelf, ENDE, (("ab", 0), ("b", 2), ("b", 10)))


class RowsOfTake(unittest.TestCase):
    def look(self, shelf, key, wanted):
        told = shelf.rows_of_take(key)
        self.assertEqual(told, wanted)
        self.assertIs(type(told), tuple)
        self.assertEqual(shelf.rows_of_take(key=key), wanted)

    def test_of_each_key(self):
        shelf = small()
        for key in (A, B):
            self.look(shelf, key, (("ab", 1), ("ab", 2), ("m", 0)))
        self.look(shelf, C, (("m", 2),))
        self.look(shelf, D, (("ab", 0),))

    def test_none(self):
        shelf = small()
        self.look(shelf, E, ())
        self.look(shelf, ("z", 10 ** 29), ())
        shelf.put(entry(E))
        self.look(shelf, E, (("m", 1),))
        shelf.put(entry(("z", 1)))
        self.look(shelf, ("z", 1), ())

    def test_joined_and_parted(self):
        shelf = small()
        number = shelf.same(C, D)
        for key in (C, D):
            self.look(shelf, key, (("ab", 0), ("m", 2)))
        shelf.undo(number)
        self.look(shelf, C, (("m", 2),))


class BothWays(unittest.TestCase):
    def test_a_row_leads_to_a_name_just_where_the_name_leads_to_that_row(self):
        for seed in range(80):
            deeds = chance_deeds(seed, 16)
            shelf = shelf_of(deeds)
            names, entries, takes, discs = as_worded(deeds)
            for disc in discs:
                for number, key in enumerate(disc.rows):
                    take = [take for take in takes if key in take]
                    told = shelf.leads(disc.label, number)
                    if not take:
                        self.assertIsNone(told)
                        for name in NAMES:
                            self.assertNotIn((disc.label, number), shelf.rows_of(name))
                        continue
                    rows = [one for one in entries if one[:2] in take[0]]
                    titles = [one[3] for one in rows if one[3] is not None]
                    players = [player for one in rows for player in one[4] or ()]
                    least = [tuple(sorted({names.class_of(name)[0] for name in some})) for some in (titles, players)]
                    self.assertEqual(told, (take[0], *least))
                    for name in NAMES:
                        there = any(names.are_one(name, other) for other in titles + players)
                        self.assertIs((disc.label, number) in shelf.rows_of(name), there)
                    for other in KEYS:
                        self.assertIs((disc.label, number) in shelf.rows_of_take(other), other in take[0])

    def test_only_rows_that_are_there_are_told_rising(self):
        for seed in range(40):
            shelf = shelf_of(chance_deeds(seed, 16))
            there = {(disc.label, number) for disc in shelf.discs() for number in range(len(disc))}
            for told in [shelf.rows_of(name) for name in NAMES] + [shelf.rows_of_take(key) for key in KEYS]:
                self.assertEqual(list(told), sorted(set(told)))
                self.assertLessEqual(set(told), there)


class Played(unittest.TestCase):
    def look(self, shelf, name, wanted):
        told = shelf.played(name)
        self.assertEqual(told, wanted)
        self.assertEqual({type(row) for row in told} | {type(told)}, {tuple})
        self.assertEqual(shelf.played(name=name), wanted)

    def day_of(self, *days):
        """The day that is told of a take whose entries, by rising keys, tell these."""
        keys = [("a", number) for number in (2, 10, 11, 100)]
        entries = [entry(key, "X", players=(BACH,), day=day) for key, day in zip(keys, days)]
        told = {str(shelf_with(turned).played(BACH)[0][0]) for turned in (entries, entries[::-1])}
        self.assertEqual(len(told), 1)
        return shelf_with(entries).played(BACH)[0][0]

    def test_none(self):
        self.look(Shelf(CODES), BACH, ())
        self.look(small(), ZOE, ())
        self.look(small(), REISE, ())

    def test_the_day(self):
        year, other_year = Day(1931), Day(1930)
        month, other_month = Day(1931, 4), Day(1930, 4)
        full, other_full = Day(1931, 4, 7), Day(1930, 1, 1)
        self.assertIsNone(self.day_of(None))
        self.assertIsNone(self.day_of(None, None, None))
        for one, other in ((year, other_year), (month, other_month), (full, other_full), (other_full, full)):
            self.assertEqual(self.day_of(one), one)
            self.assertEqual(self.day_of(one, other), one)
            self.assertEqual(self.day_of(None, one, None, other), one)
        for days in itertools.permutations((year, month, full, None)):
            self.assertEqual(self.day_of(*days), full)
        for days in itertools.permutations((year, month, None, None)):
            self.assertEqual(self.day_of(*days), month)
        for days in itertools.permutations((year, full, None, None)):
            self.assertEqual(self.day_of(*days), full)
        self.assertEqual(self.day_of(year, other_month, other_full, full), other_full)
        self.assertEqual(self.day_of(year, other_month, month), other_month)

    def test_a_day_by_an_entry_without_the_player(self):
        shelf = shelf_with((entry(A, "X", day=Day(1931, 4, 7)), entry(B, "X", players=(BACH,), day=Day(1931))))
        self.look(shelf, BACH, ((Day(1931, 4, 7), (A, B), ()),))

    def test_by_days_none_last_then_takes(self):
        days = [Day(1930, 12, 31), Day(1931, 1, 1), Day(1931, 1), Day(1931), Day(1931, 1, 2), Day(1931, 12, 31), Day(1932)]
        self.assertEqual(by_day(days[::-1]), days)
        keys = [("a", number) for number in range(9)]
        for order in (range(7), range(6, -1, -1), (3, 0, 5, 2, 6, 1, 4)):
            entries = [entry(key, players=(BACH,), day=days[at]) for key, at in zip(keys, order)]
            entries += [entry(keys[8], players=(BACH,)), entry(keys[7], players=(BACH,))]
            wanted = [(days[at], (keys[list(order).index(at)],), ()) for at in range(7)]
            self.look(shelf_with(entries), BACH, (*wanted, (None, (keys[7],), ()), (None, (keys[8],), ())))

    def test_takes_of_one_day_rise(self):
        day = Day(1931, 4)
        entries = [entry(key, players=(BACH,), day=day) for key in (E, ("a", 10), ("a", 2), C)]
        self.look(shelf_with(entries), BACH, tuple((day, (key,), ()) for key in (("a", 2), ("a", 10), C, E)))

    def test_others(self):
        shelf = small()
        self.look(shelf, BACH, ((None, (A, B), (ELLA,)),))
        for name in (ELLA, ELLE):
            self.look(shelf, name, ((None, (A, B), (BACH,)), (None, (C,), ())))
        shelf.one(ZOE, BACH)
        self.look(shelf, ZOE, ((None, (A, B), (ELLA,)),))
        shelf.one(ELLE, ZOE)
        self.look(shelf, ZOE, ((None, (A, B), ()), (None, (C,), ())))

    def test_others_of_all_entries_of_the_take(self):
        shelf = shelf_with((entry(A, "X", players=(BACH,)), entry(B, "X", players=(ELLE, ZOE)), entry(C, "X", players=(ELLA,))),
                           ((ELLA, ELLE),))
        self.look(shelf, BACH, ((None, (A, B, C), (ELLA, ZOE)),))
        self.look(shelf, ZOE, ((None, (A, B, C), (BACH, ELLA)),))

    def test_titles_are_no_players(self):
        shelf = shelf_with((entry(A, title=BACH, players=(ELLA,)),))
        self.look(shelf, BACH, ())
        self.look(shelf, ELLA, ((None, (A,), ()),))

    def test_as_the_document_words_it(self):
        for seed in range(80):
            deeds = chance_deeds(seed, 16)
            shelf = shelf_of(deeds)
            names, entries, takes, _ = as_worded(deeds)
            for name in NAMES:
                self.assertEqual(shelf.played(name), played_as_worded(names, entries, takes, name))


def played_as_worded(names, entries, takes, name):
    rows = []
    for take in takes:
        told = sorted([one for one in entries if one[:2] in take], key=lambda one: one[:2])
        players = [player for one in told for player in one[4] or ()]
        if any(names.are_one(player, name) for player in players):
            days = [one[5] for one in told if one[5] is not None]
            clear = [day for day in days if day.day] or [day for day in days if day.month] or days or [None]
            others = {names.class_of(player)[0] for player in players if not names.are_one(player, name)}
            rows.append((clear[0], take, tuple(sorted(others))))

    def place(row):
        return (row[0] is None, row[0] is not None and [str(earliest(row[0])), str(latest(row[0]))], row[1])
    return tuple(sorted(rows, key=place))


class TitlesIn(unittest.TestCase):
    GERMAN = Custom((("a",), ("b",), ("d",), ("e",), ("i",), ("n",), ("r",), ("s",)), ("die", "der"))
    PLAIN = Custom((("a",), ("b",), ("d",), ("e",), ("i",), ("n",), ("r",), ("s",)), ("die", "der"), False)
    TURNED = Custom((("s",), ("r",), ("n",), ("i",), ("e",), ("d",), ("b",), ("a",)))

    def titles(self, *texts, tongue="de"):
        return [entry(("t", number), title=(tongue, text)) for number, text in enumerate(texts)]

    def look(self, shelf, custom, tongue, wanted):
        told = shelf.titles_in(custom, tongue)
        self.assertEqual(told, wanted)
        self.assertIs(type(told), tuple)
        self.assertEqual(shelf.titles_in(tongue=tongue, custom=custom), wanted)

    def test_none(self):
        self.look(Shelf(CODES), self.GERMAN, "de", ())
        self.look(shelf_with((entry(A, players=(BACH,)),)), self.GERMAN, "de", ())

    def test_sorted_and_shown_by_the_custom(self):
        shelf = shelf_with(self.titles("Die Reise", "Ende", "Der Anbeginn", "Bald"))
        self.look(shelf, self.GERMAN, "de", ("Anbeginn, Der", "Bald", "Ende", "Reise, Die"))
        self.look(shelf, self.PLAIN, "de", ("Der Anbeginn", "Bald", "Ende", "Die Reise"))
        self.look(shelf, self.TURNED, "de", ("Ende", "Die Reise", "Der Anbeginn", "Bald"))

    def test_in_a_tongue(self):
        shelf = shelf_with((entry(A, title=REISE), entry(B, title=ENDE)), ((REISE, VOYAGE), (VOYAGE, TRIP)))
        self.look(shelf, self.GERMAN, "de", ("Ende", "Reise, Die"))
        self.look(shelf, self.GERMAN, "fr", ("Le Voyage", "Ende"))
        self.look(shelf, Custom((("a",), ("t",), ("e",)), ("a",)), "en", ("Trip, A", "Ende"))

    def test_a_tongue_that_no_name_has(self):
        # The least name of the class stands for it, told by an entry or not.
        shelf = shelf_with((entry(A, title=VOYAGE),), ((VOYAGE, REISE),))
        self.look(shelf, self.GERMAN, "it", ("Reise, Die",))
        self.look(shelf, self.GERMAN, "fr", ("Le Voyage",))

    def test_the_least_of_several_in_the_tongue(self):
        shelf = shelf_with((entry(A, title=("de", "Reise")),), ((("de", "Reise"), ("de", "Anreise")), (("de", "Reise"), REISE)))
        self.look(shelf, self.GERMAN, "de", ("Anreise",))

    def test_one_for_each_class(self):
        shelf = shelf_with((entry(A, title=REISE), entry(B, title=REISE), entry(C, title=VOYAGE), entry(D, title=TRIP)),
                           ((REISE, VOYAGE),))
        self.look(shelf, self.GERMAN, "de", ("A Trip", "Reise, Die"))
        # Two classes are called alike, each in its own tongue.
        shelf = shelf_with((entry(A, title=("de", "Eden")), entry(B, title=("en", "Eden"))))
        self.look(shelf, self.GERMAN, "de", ("Eden", "Eden"))
        shelf.one(("de", "Eden"), ("en", "Eden"))
        self.look(shelf, self.GERMAN, "de", ("Eden",))

    def test_as_the_document_words_it(self):
        for seed in range(40):
            deeds = chance_deeds(seed, 16)
            names, entries, _, _ = as_worded(deeds)
            least = {names.class_of(one[3])[0] for one in entries if one[3] is not None}
            for tongue in ("de", "en", "fr", "it"):
                texts = sorted([names.called(name, tongue)[1] for name in least], key=CUSTOM.rank)
                self.assertEqual(shelf_of(deeds).titles_in(CUSTOM, tongue), tuple(CUSTOM.shown(text) for text in texts))


class DiscsFor(unittest.TestCase):
    def look(self, shelf, keys, wanted):
        told = shelf.discs_for(keys)
        self.assertEqual(told, wanted)
        self.assertEqual((type(told), type(told[1])), (tuple, tuple))
        self.assertEqual(shelf.discs_for(keys=keys), wanted)

    def test_no_keys(self):
        self.look(Shelf(CODES), (), ("fewest", ()))
        self.look(small(), (), ("fewest", ()))

    def test_lacks_the_first_in_the_tuple(self):
        shelf = shelf_with([entry(key) for key in (A, B, C, D)], (), (Disc("m", (B,)),))
        for keys, lacking in (((A,), A), ((B, D, A), D), ((B, A, D), A), ((D, C, B), D), ((B, C), C)):
            self.look(shelf, keys, ("lacks", lacking))
        self.look(shelf, (B, B), ("fewest", ("m",)))
        self.look(shelf_with((entry(A),)), (A,), ("lacks", A))

    def test_a_disc_with_another_entry_of_the_take(self):
        shelf = shelf_with((entry(A, "X"), entry(B, "X"), entry(C)), (), (Disc("m", (B,)),))
        self.look(shelf, (A,), ("fewest", ("m",)))
        self.look(shelf, (A, B, A), ("fewest", ("m",)))
        self.look(shelf, (A, C), ("lacks", C))

    def test_a_disc_with_a_key_without_an_entry(self):
        self.look(small(), (C, A), ("fewest", ("m",)))
        shelf = shelf_with((entry(A, "X"),), (), (Disc("m", (B,)),))
        self.look(shelf, (A,), ("lacks", A))
        shelf.put(entry(B, "X"))
        self.look(shelf, (A,), ("fewest", ("m",)))

    def test_fewest(self):
        shelf = shelf_with([entry(key) for key in (A, B, C, D, E)], (),
                           (Disc("z", (A, B)), Disc("y", (C, D)), Disc("b", (A,)), Disc("c", (B, C)), Disc("d", (D,))))
        self.look(shelf, (A, B, C, D), ("fewest", ("y", "z")))
        self.look(shelf, (D, C, B, A, A), ("fewest", ("y", "z")))
        self.look(shelf, (A, B), ("fewest", ("z",)))
        self.look(shelf, (A,), ("fewest", ("b",)))
        self.look(shelf, (A, C), ("fewest", ("b", "c")))
        self.look(shelf, (B, D), ("fewest", ("c", "d")))
        self.look(shelf, (A, D), ("fewest", ("b", "d")))
        self.look(shelf, (A, E), ("lacks", E))

    def test_no_key_ahead_of_lacks(self):
        shelf = shelf_with((entry(A), entry(B)), (), (Disc("m", (B,)),))
        for thing in NO_KEYS:
            if thing == B and isinstance(thing, tuple) and thing[1] is not True:
                continue
            for keys in ((thing,), (A, thing), (B, thing), (thing, A), (A, B, thing), (thing, ["another"])):
                with self.assertRaises(NoKey) as caught:
                    shelf.discs_for(keys)
                self.assertIs(caught.exception.key, thing)
                self.assertRaises(NoKey, shelf.discs_for, keys=keys)

    def test_nested_thirty_deep(self):
        for wrap in (lambda inner: (inner,), lambda inner: ("a", inner), lambda inner: [inner], lambda inner: {"a": inner}):
            thing = nested(29, wrap)
            with self.assertRaises(NoKey) as caught:
                small().discs_for((A, thing))
            self.assertIs(caught.exception.key, thing)

    def test_as_the_document_words_it(self):
        for seed in range(60):
            deeds = chance_deeds(seed, 18)
            shelf = shelf_of(deeds)
            _, entries, takes, discs = as_worded(deeds)
            take_of = {key: take for take in takes for key in take}
            on_disc = {disc.label: {take_of[key] for key in disc.rows if key in take_of} for disc in discs}
            for many in range(4):
                for keys in itertools.permutations(take_of, many):
                    self.look(shelf, keys, discs_as_worded(on_disc, take_of, keys))


def discs_as_worded(on_disc, take_of, keys):
    for key in keys:
        if not any(take_of[key] in some for some in on_disc.values()):
            return ("lacks", key)
    for many in range(len(LABELS) + 1):
        for labels in itertools.combinations(sorted(on_disc), many):
            if all(any(take_of[key] in on_disc[label] for label in labels) for key in keys):
                return ("fewest", labels)
    raise AssertionError


class Undone(unittest.TestCase):
    def test_what_is_undone_leads_nowhere(self):
        for seed in range(20):
            deeds = chance_deeds(seed, 14)
            for number in range(len(deeds)):
                shelf, rest = shelf_of(deeds), shelf_of(without(deeds, number))
                shelf.undo(number)
                for label, row in itertools.product(LABELS, range(5)):
                    self.assertEqual(shelf.leads(label, row), rest.leads(label, row))
                for name in NAMES:
                    self.assertEqual((shelf.rows_of(name), shelf.played(name)), (rest.rows_of(name), rest.played(name)))


if __name__ == "__main__":
    unittest.main()
