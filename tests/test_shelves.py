"""Point 16 and (e) of point 3: Shelf."""

import random
import unittest

from takesworks.days import Day
from takesworks.discs import Disc
from takesworks.errors import NoEntry, NoKey, NoName, NoNumber, Same, Struck, Twice
from takesworks.lengths import Length
from takesworks.shelves import Shelf
from made import entry
from things import anything, nested, strangers, texts, truths, tuples
from worlds import RULES, all_told, chance_deeds, do, falls_as_worded, shelf_of, without

A, B, C, D = ("a", 0), ("a", 1), ("b", 0), ("b", 1)
KEYS = (A, B, C, D)
P, Q, R, S = [("de", sign) for sign in "PQRS"]
CODES = (("code",),)
NO_KEYS = [*anything(), ["a", 0], ("a",), ("a", 0, 0), ("a", False), ("a", True), ("a", -1), ("a", 7), ("z", 0), ("A", 0),
           ("a", "0"), ("a", None), ("a", [0]), (("a", 0),), ("a", 10 ** 29), "a 0"]
NO_NAMES = [*anything(), ["de", "P"], ("de",), ("de", "P", "Q"), ("De", "P"), ("de", ""), ("de", " P"), ("de", None)]


def with_entries(*entries, rules=RULES, slack=0):
    shelf = Shelf(rules, slack)
    for one in entries:
        shelf.put(one)
    return shelf


def four():
    """A shelf with four entries of which A and B are one take by their code."""
    return with_entries(entry(A, "X"), entry(B, "X"), entry(C, "Y"), entry(D))


def full():
    """A shelf with deeds of each kind, one of them undone: 0 to 3 entries, 4 and 5 names, 6 and 7 pairs, 8 a disc."""
    shelf = four()
    shelf.one(P, Q)
    shelf.one(Q, R)
    shelf.same(B, C)
    shelf.same(C, D)
    shelf.lay(Disc("ab", (A, D)))
    shelf.lay(Disc("ac", (A,)))
    shelf.undo(9)
    return shelf


class Refusing(unittest.TestCase):
    def refused(self, shelf, kind, value, thing, what, *told, **named):
        """Refused so, with that thing as its value; behind it all is as it was, and so is the next number."""
        before = all_told(shelf)
        with self.assertRaises(kind) as caught:
            getattr(shelf, what)(*told, **named)
        self.assertIs(type(caught.exception), kind)
        told_value = getattr(caught.exception, value)
        if isinstance(thing, tuple):
            self.assertEqual(told_value, thing)
        else:
            self.assertIs(told_value, thing)
        self.assertEqual(all_told(shelf), before)


class Numbers(unittest.TestCase):
    def test_of_each_deed(self):
        shelf = Shelf(RULES)
        told = [shelf.put(entry(A)), shelf.one(P, Q), shelf.put(entry(B)), shelf.same(A, B), shelf.lay(Disc("ab", (A,))),
                shelf.one(Q, R), shelf.put(entry(C))]
        self.assertEqual(told, list(range(7)))
        self.assertEqual({type(number) for number in told}, {int})
        self.assertEqual(len(shelf), 7)

    def test_by_name(self):
        shelf = Shelf(slack=0, rules=RULES)
        self.assertEqual(shelf.put(entry=entry(A)), 0)
        self.assertEqual(shelf.put(entry=entry(B)), 1)
        self.assertEqual(shelf.one(other=Q, name=P), 2)
        self.assertEqual(shelf.same(other=B, key=A), 3)
        self.assertEqual(shelf.lay(disc=Disc("ab", (A,))), 4)
        self.assertEqual(shelf.joined(other=B, one=A), (A, B))
        self.assertEqual(shelf.leaning(number=3), ((), (((A, B), ((A,), (B,))),)))
        self.assertEqual(shelf.undo(number=3), ((), (((A, B), ((A,), (B,))),)))

    def test_of_names_and_keys_told_again(self):
        shelf = four()
        self.assertEqual([shelf.one(P, Q), shelf.one(P, Q), shelf.one(Q, P)], [4, 5, 6])
        self.assertEqual([shelf.same(A, B), shelf.same(A, B), shelf.same(B, A)], [7, 8, 9])
        self.assertEqual(len(shelf), 10)
        self.assertEqual(shelf.classes(), ((P, Q),))

    def test_behind_undoing(self):
        shelf = four()
        shelf.undo(3)
        self.assertEqual(shelf.put(entry(D)), 4)
        shelf.undo(4)
        shelf.undo(2)
        self.assertEqual(shelf.one(P, Q), 5)
        self.assertEqual(len(shelf), 3)

    def test_len(self):
        shelf = Shelf(RULES)
        self.assertEqual(len(shelf), 0)
        for many, deed in enumerate(chance_deeds(5, 20), 1):
            do(shelf, deed)
            self.assertEqual(len(shelf), many)


class Put(Refusing):
    def test_no_entry(self):
        shelf = full()
        for thing in [*anything(), list(entry(A)), entry(A)[:6], (*entry(A), None), ("a", True, *entry(A)[2:]), A]:
            self.refused(shelf, NoEntry, "thing", thing, "put", thing)
            self.refused(shelf, NoEntry, "thing", thing, "put", entry=thing)
        self.assertEqual(shelf.put(entry(("z", 0))), 10)

    def test_nested_thirty_deep(self):
        for wrap in (lambda inner: (inner,), lambda inner: [inner], lambda inner: ("a", 9, *[inner] * 5)):
            thing = nested(30, wrap)
            with self.assertRaises(NoEntry) as caught:
                full().put(thing)
            self.assertIs(caught.exception.thing, thing)

    def test_a_key_that_is_there(self):
        shelf = full()
        for key in KEYS:
            self.refused(shelf, Twice, "thing", key, "put", entry(key, "X"))
            self.refused(shelf, Twice, "thing", key, "put", entry(key))
        self.assertEqual(shelf.put(entry(("a", 2))), 10)

    def test_no_entry_ahead_of_twice(self):
        thing = ("a", 0, "x", None, None, None, None)
        self.refused(full(), NoEntry, "thing", thing, "put", thing)

    def test_a_key_that_is_there_no_more(self):
        shelf = four()
        shelf.undo(0)
        self.assertEqual(shelf.put(entry(A, "Y")), 4)
        self.assertEqual(shelf.takes(), ((A, C), (B,), (D,)))
        self.refused(shelf, Twice, "thing", A, "put", entry(A, "X"))


class One(Refusing):
    def test_no_name(self):
        shelf = full()
        for thing in NO_NAMES:
            self.refused(shelf, NoName, "thing", thing, "one", thing, P)
            self.refused(shelf, NoName, "thing", thing, "one", P, thing)
            self.refused(shelf, NoName, "thing", thing, "one", other=["de", "Q"], name=thing)
            self.refused(shelf, NoName, "thing", thing, "one", thing, thing)
        self.assertEqual(shelf.one(P, S), 10)

    def test_name_ahead_of_other(self):
        one, other = ["de", "P"], ["de", "Q"]
        with self.assertRaises(NoName) as caught:
            full().one(one, other)
        self.assertIs(caught.exception.thing, one)

    def test_same(self):
        shelf = full()
        for name in (P, S):
            self.refused(shelf, Same, "thing", name, "one", name, (name[0], name[1]))
        self.assertEqual(shelf.one(P, S), 10)


class SameKeys(Refusing):
    def test_no_key(self):
        shelf = full()
        for thing in NO_KEYS:
            self.refused(shelf, NoKey, "key", thing, "same", thing, A)
            self.refused(shelf, NoKey, "key", thing, "same", A, thing)
            self.refused(shelf, NoKey, "key", thing, "same", other=["a", 9], key=thing)
            self.refused(shelf, NoKey, "key", thing, "same", thing, thing)
        self.assertEqual(shelf.same(A, D), 10)

    def test_key_ahead_of_other(self):
        with self.assertRaises(NoKey) as caught:
            full().same(("z", 1), ("z", 2))
        self.assertEqual(caught.exception.key, ("z", 1))

    def test_nested_thirty_deep(self):
        for wrap in (lambda inner: (inner,), lambda inner: ("a", inner), lambda inner: [inner], lambda inner: {"a": inner}):
            thing = nested(30, wrap)
            for told in ((thing, A), (A, thing)):
                with self.assertRaises(NoKey) as caught:
                    full().same(*told)
                self.assertIs(caught.exception.key, thing)

    def test_same(self):
        shelf = full()
        for key in KEYS:
            self.refused(shelf, Same, "thing", key, "same", key, (key[0], key[1]))
        self.assertEqual(shelf.same(A, D), 10)

    def test_no_key_ahead_of_same(self):
        self.refused(full(), NoKey, "key", ("z", 0), "same", ("z", 0), ("z", 0))

    def test_an_entry_that_was_undone(self):
        shelf = four()
        shelf.undo(1)
        self.refused(shelf, NoKey, "key", B, "same", A, B)
        self.refused(shelf, NoKey, "key", B, "same", B, A)


class Lay(Refusing):
    def test_a_label_that_is_there(self):
        shelf = full()
        self.refused(shelf, Twice, "thing", "ab", "lay", Disc("ab", (B,)))
        self.refused(shelf, Twice, "thing", "ab", "lay", disc=Disc("ab", (A, D)))
        self.assertEqual(shelf.lay(Disc("ac", (A,))), 10)

    def test_a_label_that_is_there_no_more(self):
        shelf = full()
        shelf.undo(8)
        self.assertEqual(shelf.lay(Disc("ab", (C,))), 10)
        self.assertEqual(shelf.discs(), (Disc("ab", (C,)),))

    def test_keys_without_an_entry(self):
        shelf = Shelf(RULES)
        self.assertEqual(shelf.lay(Disc("ab", (A,))), 0)
        self.assertEqual(shelf.discs(), (Disc("ab", (A,)),))


class Undo(Refusing):
    def test_no_number(self):
        shelf = full()
        for thing in [None, *strangers(), *truths(), *texts(), *tuples(), -1, -2, 10, 11, 10 ** 29, -(10 ** 29)]:
            self.refused(shelf, NoNumber, "number", thing, "undo", thing)
            self.refused(shelf, NoNumber, "number", thing, "leaning", number=thing)
        self.assertEqual(shelf.one(P, S), 10)

    def test_of_an_empty_shelf(self):
        for thing in (0, 1, -1, True, False, None):
            self.refused(Shelf(RULES), NoNumber, "number", thing, "undo", thing)

    def test_truths_where_their_numbers_are_struck(self):
        shelf = full()
        shelf.undo(0)
        shelf.undo(1)
        for thing in truths():
            self.refused(shelf, NoNumber, "number", thing, "undo", thing)

    def test_struck(self):
        shelf = full()
        self.refused(shelf, Struck, "number", 9, "undo", 9)
        self.refused(shelf, Struck, "number", 9, "leaning", 9)
        for number in (8, 4, 7, 3):
            shelf.undo(number)
            self.refused(shelf, Struck, "number", number, "undo", number)
            self.refused(shelf, Struck, "number", number, "leaning", number)

    def test_pairs_that_went_along_are_struck(self):
        shelf = full()
        shelf.undo(2)
        self.assertEqual(len(shelf), 6)
        for number in (2, 6, 7):
            self.refused(shelf, Struck, "number", number, "undo", number)

    def test_an_entry(self):
        shelf = four()
        self.assertEqual(shelf.undo(3), ((), (((D,), ()),)))
        self.assertEqual(shelf.undo(1), ((), (((A, B), ((A,),)),)))
        self.assertEqual(shelf.undo(0), ((), (((A,), ()),)))
        self.assertEqual(shelf.takes(), ((C,),))

    def test_an_entry_that_held_a_take_together(self):
        shelf = with_entries(entry(A), entry(B), entry(C), entry(D))
        for other in (A, C, D):
            shelf.same(B, other)
        self.assertEqual(shelf.takes(), ((A, B, C, D),))
        shelf.same(A, D)
        self.assertEqual(shelf.undo(1), ((), (((A, B, C, D), ((A, D), (C,))),)))
        self.assertEqual(len(shelf), 4)

    def test_pairs_come_back_no_more_when_the_entry_is_put_again(self):
        shelf = with_entries(entry(A), entry(B), entry(C))
        shelf.same(A, B)
        shelf.same(B, A)
        shelf.same(A, C)
        self.assertEqual(shelf.undo(1), ((), (((A, B, C), ((A, C),)),)))
        self.assertEqual(shelf.put(entry(B)), 6)
        self.assertEqual(shelf.takes(), ((A, C), (B,)))
        self.assertIsNone(shelf.joined(A, B))
        self.assertEqual(len(shelf), 4)
        for number in (3, 4):
            self.refused(shelf, Struck, "number", number, "undo", number)
        self.assertEqual(shelf.same(A, B), 7)
        self.assertEqual(shelf.takes(), ((A, B, C),))

    def test_an_entry_that_is_alone_but_agrees_by_none(self):
        shelf = with_entries(entry(A))
        self.assertEqual(shelf.leaning(0), ((), (((A,), ()),)))
        self.assertEqual(shelf.undo(0), ((), (((A,), ()),)))
        self.assertEqual(shelf.takes(), ())

    def test_a_telling(self):
        shelf = Shelf(RULES)
        shelf.one(P, Q)
        shelf.one(Q, R)
        shelf.one(R, S)
        self.assertEqual(shelf.undo(1), ((((P, Q, R, S), ((P, Q), (R, S))),), ()))
        self.assertEqual(shelf.undo(0), ((((P, Q), ((P,), (Q,))),), ()))
        self.assertEqual(shelf.classes(), ((R, S),))

    def test_a_telling_that_held_takes_together(self):
        day = Day(1931)
        shelf = with_entries(entry(A, title=P, day=day), entry(B, title=Q, day=day), entry(C, title=Q, day=day), entry(D))
        shelf.one(P, Q)
        self.assertEqual(shelf.takes(), ((A, B, C), (D,)))
        told = ((((P, Q), ((P,), (Q,))),), (((A, B, C), ((A,), (B, C))),))
        self.assertEqual(shelf.leaning(4), told)
        self.assertEqual(shelf.undo(4), told)

    def test_a_telling_told_twice(self):
        for first, second in ((4, 5), (5, 4)):
            shelf = four()
            shelf.one(P, Q)
            shelf.one(Q, P)
            self.assertEqual(shelf.undo(first), ((), ()))
            self.assertEqual(shelf.classes(), ((P, Q),))
            self.assertEqual(shelf.undo(second), ((((P, Q), ((P,), (Q,))),), ()))
            self.assertEqual(shelf.classes(), ())

    def test_a_pair_told_twice(self):
        for first, second in ((4, 5), (5, 4)):
            shelf = four()
            shelf.same(C, D)
            shelf.same(D, C)
            self.assertEqual(shelf.undo(first), ((), ()))
            self.assertEqual(shelf.takes(), ((A, B), (C, D)))
            self.assertEqual(shelf.undo(second), ((), (((C, D), ((C,), (D,))),)))

    def test_a_pair_that_a_rule_holds_up(self):
        shelf = four()
        shelf.same(A, B)
        self.assertEqual(shelf.leaning(4), ((), ()))
        self.assertEqual(shelf.undo(4), ((), ()))
        self.assertEqual(shelf.takes(), ((A, B), (C,), (D,)))

    def test_a_disc(self):
        shelf = full()
        before = shelf.takes()
        self.assertEqual(shelf.undo(8), ((), ()))
        self.assertEqual(shelf.discs(), ())
        self.assertEqual(shelf.takes(), before)
        self.assertIsNone(shelf.leads("ab", 0))

    def test_several_takes_fall(self):
        shelf = with_entries(entry(A, title=P, day=Day(1931)), entry(B, title=Q, day=Day(1931)),
                             entry(C, title=P, day=Day(1932)), entry(D, title=Q, day=Day(1932)))
        shelf.one(Q, P)
        self.assertEqual(shelf.undo(4)[1], (((A, B), ((A,), (B,))), ((C, D), ((C,), (D,)))))

    def test_leaning_tells_the_same_and_undoes_nothing(self):
        for number in range(9):
            shelf = full()
            before = all_told(shelf)
            told = shelf.leaning(number)
            self.assertEqual(all_told(shelf), before)
            self.assertEqual(shelf.leaning(number), told)
            self.assertEqual(shelf.undo(number), told)
            self.assertNotEqual(all_told(shelf), before)

    def test_tuples_are_told(self):
        classes, takes = full().leaning(4)
        self.assertEqual({type(thing) for thing in (full().leaning(4), classes, takes, *classes, *takes)}, {tuple})
        classes, takes = full().undo(6)
        self.assertEqual({type(thing) for row in takes for thing in (row, *row)}, {tuple})


class AsNeverTold(unittest.TestCase):
    def test_what_is_undone_leaves_all_as_if_it_had_never_been_told(self):
        for seed in range(60):
            deeds = chance_deeds(seed, 12)
            for number in range(len(deeds)):
                shelf = shelf_of(deeds)
                wanted = falls_as_worded(deeds, number)
                self.assertEqual(shelf.leaning(number), wanted)
                self.assertEqual(shelf.undo(number), wanted)
                self.assertEqual(all_told(shelf), all_told(shelf_of(without(deeds, number))))

    def test_deeds_and_undoing_in_turns(self):
        for seed in range(40):
            chance = random.Random(seed)
            deeds = chance_deeds(seed, 16)
            shelf = shelf_of([])
            counting = {}
            for deed in deeds:
                there = [told[0][:2] for what, told in counting.values() if what == "put"]
                if deed[0] != "same" or set(deed[1]) <= set(there):
                    counting[do(shelf, deed)] = deed
                if counting and chance.random() < 0.4:
                    number = chance.choice(list(counting))
                    rows = list(counting.values())
                    at = list(counting).index(number)
                    self.assertEqual(shelf.undo(number), falls_as_worded(rows, at))
                    left = without(rows, at)
                    counting = {known: counting[known] for known in counting
                                if known != number and any(counting[known] is kept for kept in left)}
                self.assertEqual(all_told(shelf), all_told(shelf_of(list(counting.values()))))


class Asked(Refusing):
    def test_an_empty_shelf(self):
        shelf = Shelf(RULES)
        for told in (shelf.takes(), shelf.entries(), shelf.discs(), shelf.classes(), shelf.clashes()):
            self.assertEqual(told, ())
            self.assertIs(type(told), tuple)

    def test_takes(self):
        self.assertEqual(four().takes(), ((A, B), (C,), (D,)))
        self.assertEqual(full().takes(), ((A, B, C, D),))

    def test_joined(self):
        shelf = full()
        self.assertEqual(shelf.joined(A, D), (A, B, C, D))
        self.assertEqual(shelf.joined(D, A), (D, C, B, A))
        self.assertEqual(shelf.joined(A, A), (A,))
        self.assertIsNone(four().joined(A, C))

    def test_joined_refused(self):
        shelf = full()
        for thing in NO_KEYS:
            self.refused(shelf, NoKey, "key", thing, "joined", thing, A)
            self.refused(shelf, NoKey, "key", thing, "joined", A, thing)
            self.refused(shelf, NoKey, "key", thing, "joined", other=("z", 9), one=thing)
            self.refused(shelf, NoKey, "key", thing, "joined", thing, thing)

    def test_entries_by_rising_keys(self):
        rows = (entry(("a", 2), "X"), entry(("a", 10)), entry(("ab", 0)), entry(("b", 0), day=Day(1931)))
        for turned in (rows, rows[::-1], rows[2:] + rows[:2]):
            self.assertEqual(with_entries(*turned).entries(), rows)
            self.assertIs(type(with_entries(*turned).entries()), tuple)

    def test_discs_by_rising_labels(self):
        discs = (Disc("a", (A,)), Disc("ab", (B,)), Disc("b", (A, B)))
        for turned in (discs, discs[::-1], discs[1:] + discs[:1]):
            shelf = Shelf(RULES)
            for disc in turned:
                shelf.lay(disc)
            self.assertEqual(shelf.discs(), discs)
            self.assertIs(type(shelf.discs()), tuple)

    def test_classes(self):
        self.assertEqual(full().classes(), ((P, Q, R),))

    def test_clashes_within_takes(self):
        shelf = with_entries(entry(A, "X", P), entry(B, "X", Q), entry(C, "Y", R), entry(D, "X", P), rules=CODES)
        self.assertEqual(shelf.clashes(), ((A, B, "title"), (B, D, "title")))
        shelf.one(Q, P)
        self.assertEqual(shelf.clashes(), ())
        shelf.same(C, A)
        self.assertEqual(shelf.clashes(), ((A, C, "code"), (A, C, "title"), (B, C, "code"), (B, C, "title"),
                                           (C, D, "code"), (C, D, "title")))

    def test_clashes_rise_over_takes(self):
        shelf = with_entries(entry(A, "X", P), entry(D, "X", Q), entry(B, "Y", P), entry(C, "Y", Q), rules=CODES)
        self.assertEqual(shelf.clashes(), ((A, D, "title"), (B, C, "title")))
        # The take of A has a clash of D behind the clash of B.
        shelf = with_entries(entry(A, "X", P), entry(C, "X", P), entry(D, "X", Q), entry(B, "Y", P), entry(("c", 0), "Y", Q),
                             rules=CODES)
        self.assertEqual(shelf.clashes(), ((A, D, "title"), (B, ("c", 0), "title"), (C, D, "title")))

    def test_slack(self):
        rows = (entry(A, "X", length=Length(100)), entry(B, "X", length=Length(103)))
        clash = ((A, B, "length"),)
        for shelf, wanted in ((Shelf(CODES), clash), (Shelf(CODES, 2), clash), (Shelf(CODES, 3), ()),
                              (Shelf(CODES, slack=4), ()), (Shelf(slack=2, rules=CODES), clash)):
            for row in rows:
                shelf.put(row)
            self.assertEqual(shelf.clashes(), wanted)

    def test_slack_left_out(self):
        for apart, wanted in ((0, ()), (1, ((A, B, "length"),))):
            shelf = Shelf(CODES)
            shelf.put(entry(A, "X", length=Length(100)))
            shelf.put(entry(B, "X", length=Length(100 + apart)))
            self.assertEqual(shelf.clashes(), wanted)


class Apart(unittest.TestCase):
    def test_two_shelves_stand_apart(self):
        one, other = Shelf(RULES), Shelf(CODES)
        one.put(entry(A, "X"))
        one.one(P, Q)
        self.assertEqual((len(other), other.takes(), other.classes()), (0, (), ()))
        self.assertEqual(other.put(entry(A)), 0)
        other.undo(0)
        self.assertEqual(one.takes(), ((A,),))
        one.lay(Disc("ab", (A,)))
        self.assertEqual(other.discs(), ())
        self.assertEqual(other.lay(Disc("ab", (B,))), 1)
        self.assertEqual(one.discs(), (Disc("ab", (A,)),))

    def test_what_is_told_before_stays_as_it_was(self):
        shelf = full()
        told = (shelf.takes(), shelf.entries(), shelf.discs(), shelf.classes())
        before = repr(told)
        shelf.undo(0)
        shelf.undo(8)
        shelf.undo(4)
        self.assertEqual(repr(told), before)

    def test_what_is_handed_in_is_unchanged(self):
        things = (["de", "P"], {"a": [1]}, ["a", [0]])
        before = repr(things)
        shelf = full()
        for thing in things:
            self.assertRaises(NoEntry, shelf.put, thing)
            self.assertRaises(NoName, shelf.one, thing, P)
            self.assertRaises(NoKey, shelf.same, thing, A)
            self.assertRaises(NoNumber, shelf.undo, thing)
        self.assertEqual(repr(things), before)

    def test_a_disc_is_kept_as_a_copy(self):
        disc = Disc("ab", (A,))
        shelf = Shelf(RULES)
        shelf.lay(disc)
        self.assertIsNot(shelf.discs()[0], disc)
        self.assertEqual(shelf.discs()[0], disc)


if __name__ == "__main__":
    unittest.main()
