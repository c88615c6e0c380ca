"""Point 13, and (d) of point 3: Listing."""

import itertools
import random
import unittest

from takesworks.days import Day
from takesworks.errors import NoEntry
from takesworks.lengths import Length
from takesworks.listings import Listing
from made import entry
from things import Stranger, anything, nested

REISE, VOYAGE, ANDERE = ("de", "Reise"), ("fr", "Voyage"), ("de", "Andere")
BACH, ELLA = ("de", "Bach"), ("en", "Ella")
A, B, C = ("ab", 2), ("ab", 10), ("b", 0)
FIELDS = ("code", "title", "players", "day", "length")
ONE = entry(A, "X1", REISE, (BACH,), Day(1931), Length(1))
OTHER = entry(A, "X2", ANDERE, (BACH, ELLA), Day(1931, 4), Length(2))
RISING = {
    "code": ["1", "10", "2", "X", "X1"],
    "title": [ANDERE, REISE, ("de", "a"), ("en", "A"), VOYAGE],
    "players": [(ANDERE,), (BACH,), (BACH, ELLA), (BACH, VOYAGE), (ELLA,)],
    "day": [Day(1930, 12, 31), Day(1931), Day(1931, 1), Day(1931, 1, 1), Day(1931, 1, 31), Day(1931, 2), Day(1932)],
    "length": [Length(0), Length(2), Length(10), Length(100), Length(359999)],
}
NO_ENTRIES = [*anything(), list(ONE), ONE[:6], (*ONE, None), (ONE,), ("ab", True, *ONE[2:]), ("Ab", 2, *ONE[2:]),
              (*ONE[:5], Length(1), Day(1931)), (*ONE[:4], [BACH], None, None), ("ab", -1, *ONE[2:])]


def all_told(listing):
    """All that a listing tells."""
    keys = [row[:2] for row in listing.entries()]
    return (len(listing), keys, [listing.told(*key, field) for key in keys for field in FIELDS], listing.clashes(),
            str(listing), repr(listing))


def chance_entries(chance, many):
    keys = [(house, number) for house in ("a", "b") for number in range(2)]
    things = {field: [None, *RISING[field][:3]] for field in FIELDS}
    return tuple(entry(chance.choice(keys), *[chance.choice(things[field]) for field in FIELDS]) for _ in range(many))


class Made(unittest.TestCase):
    def test_of_none(self):
        for listing in (Listing(), Listing(None), Listing(()), Listing(entries=None), Listing(entries=())):
            self.assertEqual(len(listing), 0)
            self.assertEqual(listing.entries(), ())
            self.assertEqual(listing.clashes(), ())
            self.assertEqual(str(listing), "")
            self.assertEqual(repr(listing), "Listing(0)")

    def test_of_a_tuple(self):
        listing = Listing((ONE, OTHER, entry(B, "X3")))
        put = Listing()
        for one in (ONE, OTHER, entry(B, "X3")):
            put.put(one)
        self.assertEqual(listing, put)
        self.assertEqual(Listing(entries=(ONE,)).entries(), (ONE,))

    def test_of_a_tuple_refused(self):
        for thing in NO_ENTRIES:
            for entries in ((thing,), (ONE, thing), (thing, ONE), (thing, ["another"])):
                with self.assertRaises(NoEntry) as caught:
                    Listing(entries)
                self.assertIs(caught.exception.thing, thing)


class Put(unittest.TestCase):
    def test_refused(self):
        listing = Listing((ONE, OTHER, entry(C)))
        before = all_told(listing)
        for thing in NO_ENTRIES:
            with self.assertRaises(NoEntry) as caught:
                listing.put(thing)
            self.assertIs(caught.exception.thing, thing)
            self.assertEqual(all_told(listing), before)
            self.assertEqual(listing, Listing((ONE, OTHER, entry(C))))

    def test_refused_by_name_and_nested_thirty_deep(self):
        for wrap in (lambda inner: (inner,), lambda inner: [inner], lambda inner: ("ab", 2, *[inner] * 5)):
            thing = nested(30, wrap)
            with self.assertRaises(NoEntry) as caught:
                Listing().put(entry=thing)
            self.assertIs(caught.exception.thing, thing)

    def test_what_is_refused_is_unchanged(self):
        thing = ["ab", {"a": [4]}]
        self.assertRaises(NoEntry, Listing().put, thing)
        self.assertEqual(thing, ["ab", {"a": [4]}])

    def test_twice(self):
        listing = Listing((ONE,))
        before = all_told(listing)
        listing.put(ONE)
        listing.put(entry=entry(A, "X1", day=Day(1931)))
        listing.put(entry(A))
        self.assertEqual(all_told(listing), before)

    def test_listings_stand_apart(self):
        one, other = Listing(), Listing()
        one.put(ONE)
        self.assertEqual(len(other), 0)
        self.assertEqual(other.told("ab", 2, "code"), [])


class Told(unittest.TestCase):
    def test_unlike_things_once_and_sorted(self):
        for field, rising in RISING.items():
            for seed in range(20):
                things = rising * 2
                random.Random(seed).shuffle(things)
                listing = Listing(tuple(entry(A, **{field: thing}) for thing in things))
                told = listing.told("ab", 2, field)
                self.assertEqual(told, rising)
                self.assertIs(type(told), list)

    def test_each_field(self):
        listing = Listing((ONE, OTHER))
        for field, first, second in zip(FIELDS, ONE[2:], OTHER[2:]):
            wanted = [second, first] if field == "title" else [first, second]
            self.assertEqual(listing.told("ab", 2, field), wanted)
            self.assertEqual(listing.told(field=field, number=2, house="ab"), wanted)

    def test_what_is_not_told(self):
        listing = Listing((entry(A), entry(B, "X1")))
        for field in FIELDS:
            self.assertEqual(listing.told("ab", 2, field), [])
        self.assertEqual(listing.told("ab", 10, "title"), [])
        self.assertEqual(listing.told("ab", 10, "code"), ["X1"])

    def test_a_key_that_is_not_there(self):
        listing = Listing((ONE, entry(("ab", 1), "X1")))
        for house, number in (("ab", 3), ("a", 2), ("b", 2), ("ab", 0), ("ab", 10 ** 29)):
            for field in FIELDS:
                self.assertEqual(listing.told(house, number, field), [])
                self.assertEqual(Listing().told(house, number, field), [])
        self.assertEqual(listing.told("ab", True, "code"), [])

    def test_a_new_list_each_time(self):
        listing = Listing((ONE, OTHER))
        for field in FIELDS:
            before = repr(listing.told("ab", 2, field))
            listing.told("ab", 2, field).clear()
            listing.told("ab", 2, field).append("X9")
            self.assertIsNot(listing.told("ab", 2, field), listing.told("ab", 2, field))
            self.assertEqual(repr(listing.told("ab", 2, field)), before)
            listing.told("ab", 3, field).append("X9")
            self.assertEqual(listing.told("ab", 3, field), [])


class Entries(unittest.TestCase):
    def test_by_rising_keys(self):
        rows = (entry(("a", 3)), entry(A, "X1"), entry(B, "X2"), entry(C, "X3"))
        for turned in itertools.permutations(rows):
            told = Listing(turned).entries()
            self.assertEqual(told, rows)
            self.assertIs(type(told), tuple)
            self.assertEqual({type(row) for row in told}, {tuple})

    def test_the_one_thing_told_by_several(self):
        listing = Listing((entry(A, "X1"), entry(A, title=REISE), entry(A, "X1", players=(BACH,)),
                           entry(A, day=Day(1931)), entry(A, length=Length(1))))
        self.assertEqual(listing.entries(), (ONE,))
        self.assertEqual(listing.clashes(), ())

    def test_several_told(self):
        for field, first, second in zip(FIELDS, ONE[2:], OTHER[2:]):
            listing = Listing((ONE, entry(A, **{field: second})))
            wanted = dict(zip(FIELDS, ONE[2:]))
            wanted[field] = None
            self.assertEqual(listing.entries(), (entry(A, **wanted),))
            self.assertEqual(listing.clashes(), (("ab", 2, field),))

    def test_days_that_may_be_the_same_are_unlike(self):
        listing = Listing((entry(A, day=Day(1931)), entry(A, day=Day(1931, 4))))
        self.assertEqual(listing.entries(), (entry(A),))
        self.assertEqual(listing.clashes(), (("ab", 2, "day"),))

    def test_clashes_rise_fields_as_texts(self):
        rows = (ONE, OTHER, entry(C, "X1"), entry(C, "X2"), entry(B, "X1", REISE), entry(B, "X1", VOYAGE))
        for turned in itertools.permutations(rows):
            told = Listing(turned).clashes()
            self.assertEqual(told, (("ab", 2, "code"), ("ab", 2, "day"), ("ab", 2, "length"), ("ab", 2, "players"),
                                    ("ab", 2, "title"), ("ab", 10, "title"), ("b", 0, "code")))
            self.assertIs(type(told), tuple)

    def test_len_and_repr(self):
        for many in range(61):
            listing = Listing(tuple(entry(("ab", number)) for number in range(many)) * 2)
            self.assertEqual(len(listing), many)
            self.assertEqual(repr(listing), f"Listing({many})")

    def test_str(self):
        listing = Listing((entry(C, "X3"), ONE, OTHER, entry(B, day=Day(1931, 4), length=Length(187)),
                           entry(B, players=(BACH, ELLA))))
        self.assertEqual(str(listing), "ab 2\nab 10 | by de:Bach, en:Ella | day 1931-04 | long 3:07\nb 0 | code X3")
        self.assertEqual(str(Listing((ONE,))), "ab 2 | code X1 | title de:Reise | by de:Bach | day 1931 | long 0:01")


class Equality(unittest.TestCase):
    def test_the_same_things_of_the_same_keys(self):
        for one, other in (((), ()), ((ONE, OTHER), (OTHER, ONE)), ((ONE, ONE), (ONE,)), ((ONE, entry(A)), (ONE,)),
                           ((ONE,), (entry(A, *ONE[2:4]), entry(A, None, None, *ONE[4:]))),
                           ((entry(A, "X1", REISE), entry(A, "X2", VOYAGE)),
                            (entry(A, "X1", VOYAGE), entry(A, "X2", REISE)))):
            self.assertIs(Listing(one) == Listing(other), True)
            self.assertIs(Listing(one) != Listing(other), False)

    def test_unlike_ones(self):
        made = [(), (entry(A),), (entry(B),), (entry(A), entry(B)), (ONE,), (OTHER,), (ONE, OTHER), (ONE, entry(B)),
                (entry(B, *ONE[2:]),)]
        made += [(entry(A, **{field: thing}),) for field in FIELDS for thing in RISING[field][:2]]
        for one, other in itertools.permutations(made, 2):
            self.assertIs(Listing(one) == Listing(other), False)
            self.assertIs(Listing(one) != Listing(other), True)

    def test_the_same_entries_but_other_things_told(self):
        one, other = Listing((entry(A, "X1"), entry(A, "X2"))), Listing((entry(A, "X1"), entry(A, "X3")))
        self.assertEqual(one.entries(), other.entries())
        self.assertEqual(one.clashes(), other.clashes())
        self.assertIs(one == other, False)

    def test_with_nothing_else(self):
        for listing in (Listing(), Listing((ONE,))):
            for thing in [None, 0, 1, "", str(listing), repr(listing), (), [], {}, listing.entries(), Stranger(), Listing,
                          list(listing.entries()), True, False]:
                self.assertIs(listing == thing, False)
                self.assertIs(listing != thing, True)


class Joined(unittest.TestCase):
    def test_all_that_either_tells(self):
        one, other = Listing((ONE, entry(B, "X3"))), Listing((OTHER, entry(C, "X4")))
        for both in (one.joined(other), other.joined(one), one.joined(other=other)):
            self.assertIsInstance(both, Listing)
            self.assertEqual(both, Listing((ONE, entry(B, "X3"), OTHER, entry(C, "X4"))))
            self.assertEqual(both.told("ab", 2, "code"), ["X1", "X2"])
            self.assertEqual(both.entries(), (entry(A), entry(B, "X3"), entry(C, "X4")))
            self.assertEqual(len(both.clashes()), 5)

    def test_neither_is_changed(self):
        one, other = Listing((ONE, entry(B, "X3"))), Listing((OTHER, entry(C, "X4")))
        before = (all_told(one), all_told(other))
        one.joined(other)
        other.joined(one)
        self.assertEqual((all_told(one), all_told(other)), before)

    def test_with_itself(self):
        for rows in ((), (ONE,), (ONE, OTHER), (ONE, entry(B), entry(C, "X1"))):
            listing = Listing(rows)
            self.assertEqual(listing.joined(listing), listing)
            self.assertIsNot(listing.joined(listing), listing)

    def test_with_an_empty_one(self):
        for rows in ((), (ONE,), (ONE, OTHER, entry(B))):
            listing = Listing(rows)
            for both in (listing.joined(Listing()), Listing().joined(listing)):
                self.assertEqual(both, listing)
                self.assertIsNot(both, listing)

    def test_later_puts_are_not_seen_in_the_others(self):
        for at in range(3):
            one, other = Listing((ONE, entry(B, "X3"))), Listing((ONE, entry(C, "X4")))
            three = [one, other, one.joined(other)]
            before = [all_told(listing) for listing in three]
            for row in (OTHER, entry(B, "X9"), entry(C, "X9"), entry(("d", 0), "X1")):
                three[at].put(row)
            for number, listing in enumerate(three):
                self.assertIs(all_told(listing) == before[number], number != at)

    def test_later_puts_behind_a_joining_with_itself(self):
        for at in range(2):
            one = Listing((ONE,))
            two = [one, one.joined(one)]
            two[at].put(OTHER)
            self.assertEqual(two[1 - at], Listing((ONE,)))

    def test_in_any_order_in_any_groups_twice_too(self):
        for seed in range(60):
            chance = random.Random(seed)
            rows = [chance_entries(chance, chance.randrange(5)) for _ in range(4)]
            whole = Listing(sum(rows, ()))
            listings = [Listing(row) for row in rows]
            for turned in itertools.permutations(listings):
                one, other, third, fourth = turned
                for both in (one.joined(other).joined(third).joined(fourth),
                             one.joined(other.joined(third.joined(fourth))),
                             one.joined(other).joined(third.joined(fourth)),
                             one.joined(other.joined(third)).joined(fourth).joined(other).joined(third.joined(one))):
                    self.assertEqual(both, whole)
            self.assertEqual(all_told(both), all_told(whole))

    def test_joined_over_and_over(self):
        listing = Listing((ONE, OTHER))
        for _ in range(100):
            listing = listing.joined(listing)
        self.assertEqual(listing, Listing((ONE, OTHER)))


if __name__ == "__main__":
    unittest.main()
