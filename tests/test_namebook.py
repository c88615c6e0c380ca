"""Points 7 and 8: the book of names."""

import itertools
import random
import unittest

from takesworks.errors import NoName, NoNumber, Same, Struck
from takesworks.namebook import Names
from made import book
from things import anything, nested, strangers, texts, truths, tuples

A, B, C, D, E, F = [("de", sign) for sign in "ABCDEF"]
NO_NAMES = [*anything(), ["de", "A"], ("de",), ("de", "A", "B"), ("De", "A"), ("de", ""), ("de", " A"), ("d", "A"),
            ("de", None), ("de", ["A"])]
NO_NUMBERS = [None, *strangers(), *truths(), *texts(), *tuples(), -1, -2, -(10 ** 29), 10 ** 29, 10 ** 30 - 1]


class Plain:
    """A book written as the document words it, slowly: a list of (number, one, other) that count."""

    def __init__(self):
        self.many = 0
        self.rows = []

    def tell(self, one, other):
        self.rows.append((self.many, one, other))
        self.many += 1

    def strike(self, number):
        self.rows = [row for row in self.rows if row[0] != number]

    def class_of(self, name):
        found = {name}
        for _ in self.rows:
            for _, one, other in self.rows:
                if one in found or other in found:
                    found |= {one, other}
        return tuple(sorted(found))

    def chains(self, one, other):
        """All rows of tellings without a name twice."""
        rows = [((), [one])]
        found = []
        while rows:
            numbers, seen = rows.pop()
            if seen[-1] == other:
                found.append(numbers)
                continue
            for number, first, second in self.rows:
                for here, there in ((first, second), (second, first)):
                    if here == seen[-1] and there not in seen:
                        rows.append(((*numbers, number), [*seen, there]))
        return found

    def chain(self, one, other):
        return min(self.chains(one, other), key=lambda row: (len(row), row), default=None)


def all_told(names, some):
    """All that a book tells of some names."""
    return (names.classes(), [names.class_of(name) for name in some],
            [names.chain(one, other) for one in some for other in some],
            [names.called(name, tongue) for name in some for tongue in ("de", "fr")])


class Tell(unittest.TestCase):
    def test_numbers_from_0(self):
        names = Names()
        for number, pair in enumerate([(A, B), (B, A), (A, B), (C, D), (A, D), (B, C)]):
            told = names.tell(*pair)
            self.assertEqual(told, number)
            self.assertIs(type(told), int)

    def test_by_name(self):
        names = Names()
        self.assertEqual(names.tell(other=B, one=A), 0)
        self.assertEqual(names.tell(B, other=C), 1)
        self.assertEqual(names.chain(other=C, one=A), (0, 1))

    def test_numbers_behind_strikes(self):
        names = book((A, B), (B, C))
        names.strike(1)
        self.assertEqual(names.tell(B, C), 2)
        names.strike(0)
        names.strike(2)
        self.assertEqual(names.tell(B, C), 3)

    def refused(self, names, one, other, wanted):
        before = all_told(names, (A, B, C, D))
        with self.assertRaises(NoName) as caught:
            names.tell(one, other)
        self.assertIs(caught.exception.thing, wanted)
        self.assertEqual(all_told(names, (A, B, C, D)), before)

    def test_no_name(self):
        names = book((A, B), (B, C))
        for thing in NO_NAMES:
            self.refused(names, thing, D, thing)
            self.refused(names, D, thing, thing)
            self.refused(names, thing, thing, thing)
        self.assertEqual(names.tell(C, D), 2)

    def test_the_first_that_is_no_name(self):
        one, other = ["de", "A"], ["de", "B"]
        self.refused(Names(), one, other, one)
        self.refused(Names(), other, one, other)
        self.refused(Names(), one, A, one)

    def test_the_same_name(self):
        names = book((A, B))
        for name in (A, C, ("fr", "La Mer")):
            before = all_told(names, (A, B, C))
            with self.assertRaises(Same) as caught:
                names.tell(name, (name[0], name[1]))
            self.assertEqual(caught.exception.thing, name)
            self.assertEqual(all_told(names, (A, B, C)), before)
        self.assertEqual(names.tell(B, C), 1)

    def test_what_is_no_name_ahead_of_same(self):
        thing = ["de", "A"]
        self.refused(Names(), thing, thing, thing)

    def test_what_is_refused_is_unchanged(self):
        thing = ["de", {"a": [4]}, nested(28, lambda inner: [inner])]
        before = repr(thing)
        self.refused(Names(), thing, A, thing)
        self.assertEqual(repr(thing), before)

    def test_one_tongue_or_two(self):
        names = book((("de", "Reise"), ("fr", "Reise")), (("de", "Reise"), ("de", "reise")))
        self.assertEqual(names.class_of(("fr", "Reise")), (("de", "Reise"), ("de", "reise"), ("fr", "Reise")))


class Strike(unittest.TestCase):
    def test_nothing_falls(self):
        names = book((A, B), (B, C), (A, C))
        self.assertEqual(names.strike(1), ())
        self.assertEqual(names.class_of(A), (A, B, C))

    def test_told_twice(self):
        names = book((A, B), (B, A))
        self.assertEqual(names.strike(0), ())
        self.assertIs(names.are_one(A, B), True)
        self.assertEqual(names.strike(1), (((A, B), ((A,), (B,))),))
        self.assertIs(names.are_one(A, B), False)

    def test_a_class_falls_in_two(self):
        names = book((C, B), (B, A), (C, D))
        self.assertEqual(names.strike(0), (((A, B, C, D), ((A, B), (C, D))),))
        self.assertEqual(names.classes(), ((A, B), (C, D)))

    def test_parts_rise(self):
        # One name behind the class's least: the part of other stands ahead.
        names = book((D, A), (D, C))
        self.assertEqual(names.strike(number=0), (((A, C, D), ((A,), (C, D))),))
        self.assertEqual(names.strike(1), (((C, D), ((C,), (D,))),))

    def refused(self, names, number, kind):
        before = all_told(names, (A, B, C, D))
        with self.assertRaises(kind) as caught:
            names.strike(number)
        self.assertIs(type(caught.exception), kind)
        self.assertIs(caught.exception.number, number)
        self.assertEqual(all_told(names, (A, B, C, D)), before)

    def test_no_number(self):
        pairs = ((A, B), (B, C), (C, D))
        for many in range(4):
            for thing in [*NO_NUMBERS, many, many + 1]:
                self.refused(book(*pairs[:many]), thing, NoNumber)

    def test_no_number_of_things_that_equal_numbers(self):
        names = book((A, B), (B, C))
        names.strike(0)
        for thing in (True, False):
            self.refused(names, thing, NoNumber)

    def test_struck(self):
        names = book((A, B), (B, C))
        names.strike(0)
        self.refused(names, 0, Struck)
        self.refused(names, 2, NoNumber)
        names.strike(1)
        self.refused(names, 0, Struck)
        self.refused(names, 1, Struck)

    def test_struck_stays_struck_when_told_again(self):
        names = book((A, B))
        names.strike(0)
        self.assertEqual(names.tell(A, B), 1)
        self.refused(names, 0, Struck)
        self.assertEqual(names.chain(A, B), (1,))


class Classes(unittest.TestCase):
    def test_two_books_stand_apart(self):
        one, other = Names(), Names()
        one.tell(A, B)
        self.assertIs(other.are_one(A, B), False)
        self.assertEqual(other.tell(C, D), 0)
        other.strike(0)
        self.assertEqual(one.classes(), ((A, B),))
        self.assertEqual(other.classes(), ())

    def test_of_names_never_told(self):
        for names in (Names(), book((A, B))):
            self.assertIs(names.are_one(C, C), True)
            self.assertIs(names.are_one(C, D), False)
            self.assertIs(names.are_one(C, A), False)
            self.assertIs(names.are_one(A, C), False)
            self.assertEqual(names.class_of(C), (C,))

    def test_an_empty_book(self):
        self.assertEqual(Names().classes(), ())

    def test_alike_names(self):
        self.assertIs(book((A, B)).are_one(A, ("de", "A")), True)

    def test_rising(self):
        names = book((F, D), (E, F), (C, B), (B, ("aa", "Z")))
        self.assertEqual(names.class_of(F), (D, E, F))
        self.assertEqual(names.classes(), ((("aa", "Z"), B, C), (D, E, F)))
        self.assertEqual(names.class_of(name=C), (("aa", "Z"), B, C))

    def test_capitals_rise_ahead_of_small_ones(self):
        names = book((("de", "b"), ("de", "C")))
        self.assertEqual(names.class_of(("de", "b")), (("de", "C"), ("de", "b")))

    def test_behind_strikes(self):
        names = book((A, B), (C, D), (B, C))
        self.assertEqual(names.classes(), ((A, B, C, D),))
        names.strike(2)
        self.assertEqual(names.classes(), ((A, B), (C, D)))
        names.strike(0)
        self.assertEqual(names.classes(), ((C, D),))
        self.assertEqual(names.class_of(A), (A,))
        names.strike(1)
        self.assertEqual(names.classes(), ())

    def test_tuples_are_told(self):
        names = book((A, B))
        self.assertIs(type(names.classes()), tuple)
        self.assertIs(type(names.classes()[0]), tuple)
        self.assertIs(type(names.class_of(A)), tuple)
        self.assertIs(type(names.class_of(C)), tuple)

    def test_as_a_plain_book_has_it(self):
        some = (A, B, C, D, E, F)
        for seed in range(150):
            chance = random.Random(seed)
            names, plain = Names(), Plain()
            for _ in range(chance.randrange(1, 14)):
                if plain.rows and chance.randrange(3) == 0:
                    number = chance.choice(plain.rows)[0]
                    before = {name: plain.class_of(name) for name in some}
                    plain.strike(number)
                    fallen = {whole: tuple(sorted({plain.class_of(name) for name in whole}))
                              for whole in before.values() if plain.class_of(whole[0]) != whole}
                    self.assertEqual(names.strike(number), tuple(fallen.items()))
                else:
                    pair = chance.sample(some, 2)
                    names.tell(*pair)
                    plain.tell(*pair)
                classes = {plain.class_of(name) for name in some}
                self.assertEqual(names.classes(), tuple(sorted(one for one in classes if len(one) > 1)))
                for one, other in itertools.product(some, some):
                    self.assertEqual(names.class_of(one), plain.class_of(one))
                    self.assertIs(names.are_one(one, other), other in plain.class_of(one))
                    self.assertEqual(names.chain(one, other), plain.chain(one, other))


class Chain(unittest.TestCase):
    def test_none(self):
        names = book((A, B), (C, D))
        for one, other in ((A, C), (A, E), (E, A), (E, F)):
            self.assertIsNone(names.chain(one, other))
        self.assertIsNone(Names().chain(A, B))

    def test_alike_ones(self):
        for names in (Names(), book((A, B), (B, A))):
            for name in (A, B, C):
                self.assertEqual(names.chain(name, name), ())

    def test_the_shortest(self):
        names = book((A, B), (B, C), (C, D), (A, D))
        self.assertEqual(names.chain(A, D), (3,))
        self.assertEqual(names.chain(D, A), (3,))
        self.assertEqual(names.chain(A, C), (0, 1))
        self.assertEqual(names.chain(C, A), (1, 0))

    def test_of_the_shortest_the_least(self):
        names = book((C, D), (A, C), (B, D), (A, B))
        # A to D by C: (1, 0), by B: (3, 2); D to A by C: (0, 1), by B: (2, 3).
        self.assertEqual(names.chain(A, D), (1, 0))
        self.assertEqual(names.chain(D, A), (0, 1))

    def test_the_least_by_its_first_number(self):
        names = book((A, B), (C, D), (A, C), (B, D))
        # By B: (0, 3), by C: (2, 1).
        self.assertEqual(names.chain(A, D), (0, 3))
        self.assertEqual(names.chain(D, A), (1, 2))

    def test_told_twice(self):
        names = book((B, A), (A, B), (C, B), (B, C))
        self.assertEqual(names.chain(A, C), (0, 2))
        names.strike(0)
        self.assertEqual(names.chain(A, C), (1, 2))
        names.strike(2)
        self.assertEqual(names.chain(A, C), (1, 3))
        names.strike(3)
        self.assertIsNone(names.chain(A, C))

    def test_behind_strikes(self):
        names = book((A, B), (B, C), (C, D), (A, D))
        names.strike(3)
        self.assertEqual(names.chain(A, D), (0, 1, 2))
        names.strike(1)
        self.assertIsNone(names.chain(A, D))
        self.assertEqual(names.tell(D, B), 4)
        self.assertEqual(names.chain(A, C), (0, 4, 2))

    def test_sixty_tellings_in_a_row(self):
        row = [("de", f"N{number:02d}") for number in range(61)]
        names = book(*zip(row, row[1:]))
        self.assertEqual(names.chain(row[0], row[60]), tuple(range(60)))
        self.assertEqual(names.chain(row[60], row[0]), tuple(range(59, -1, -1)))
        self.assertEqual(names.class_of(row[30]), tuple(row))
        self.assertIs(names.shows_chain(row[0], row[60], tuple(range(60))), True)
        self.assertEqual(names.strike(29), ((tuple(row), (tuple(row[:30]), tuple(row[30:]))),))

    def test_sixty_tellings_with_many_shortest_rows(self):
        # Fifteen squares in a row: two shortest ways through each, 2 ** 15 in all.
        corners = [("de", f"C{number:02d}") for number in range(16)]
        names = Names()
        for number, (one, other) in enumerate(zip(corners, corners[1:])):
            for side in "ab":
                names.tell(("de", f"S{number}{side}"), other)
                names.tell(one, ("de", f"S{number}{side}"))
        wanted = [number for at in range(15) for number in (4 * at + 1, 4 * at)]
        self.assertEqual(names.chain(corners[0], corners[15]), tuple(wanted))
        self.assertEqual(names.chain(corners[15], corners[0]), tuple(wanted[::-1]))

    def test_a_tuple(self):
        names = book((A, B))
        self.assertIs(type(names.chain(A, B)), tuple)
        self.assertIs(type(names.chain(A, A)), tuple)


class ShowsChain(unittest.TestCase):
    def setUp(self):
        self.names = book((A, B), (B, C), (C, D), (D, A), (A, B), (E, F))

    def look(self, one, other, thing, wanted):
        self.assertIs(self.names.shows_chain(one, other, thing), wanted)
        self.assertIs(self.names.shows_chain(thing=thing, other=other, one=one), wanted)

    def test_chains_own(self):
        for one, other in itertools.product((A, B, C, D, E, F), repeat=2):
            chain = self.names.chain(one, other)
            self.look(one, other, chain, chain is not None)

    def test_longer_ones(self):
        self.look(A, C, (3, 2), True)
        self.look(A, D, (0, 1, 2), True)
        self.look(A, B, (3, 2, 1), True)
        self.look(A, B, (0, 4, 0), True)
        self.look(A, A, (0, 1, 2, 3), True)
        self.look(A, A, (0, 0), True)
        self.look(A, A, (0, 4), True)

    def test_one_wrong_number(self):
        for chain, one, other in (((0, 1, 2), A, D), ((3, 2), A, C), ((0,), A, B)):
            for at in range(len(chain)):
                for number in [*range(-6, 7), 60, 10 ** 29]:
                    wrong = (*chain[:at], number, *chain[at + 1:])
                    self.look(one, other, wrong, wrong == chain or wrong == tuple([4 if k == 0 else k for k in chain]))

    def test_a_struck_one(self):
        self.look(A, C, (4, 1), True)
        self.names.strike(4)
        self.look(A, C, (4, 1), False)
        self.look(A, C, (0, 1), True)
        self.names.strike(1)
        self.look(A, C, (0, 1), False)

    def test_truths_in_the_place_of_numbers(self):
        self.look(A, C, (0, 1), True)
        self.look(A, C, (False, 1), False)
        self.look(A, C, (0, True), False)
        self.look(A, B, (False,), False)

    def test_lists(self):
        self.look(A, B, [0], False)
        self.look(A, B, (0,), True)
        self.look(A, A, [], False)
        self.look(A, B, 0, False)
        self.look(A, B, "0", False)
        self.look(A, B, ("0",), False)
        self.look(A, B, ([0],), False)
        self.look(A, B, ((0,),), False)
        self.look(A, B, {0: 0}, False)

    def test_one_that_ends_or_begins_elsewhere(self):
        self.look(A, D, (0, 1), False)
        self.look(A, B, (0, 1), False)
        self.look(B, C, (0, 1), False)
        self.look(A, E, (0,), False)
        self.look(A, F, (0, 5), False)
        self.look(C, A, (0, 1), False)

    def test_empty(self):
        for one, other in itertools.product((A, B, ("fr", "Never")), repeat=2):
            self.look(one, other, (), one == other)

    def test_anything(self):
        for thing in anything():
            if not (isinstance(thing, tuple) and len(thing) == 0):
                self.look(A, C, thing, False)
                self.look(A, B, (thing, 1), False)
            self.look(A, C, (0, 1, thing), False)

    def test_what_it_takes_is_so(self):
        # Every tuple of up to three numbers: taken just where each step leads on.
        pairs = [(A, B), (B, C), (C, D), (D, A), (A, B), (E, F)]
        for many in range(4):
            for thing in itertools.product(range(7), repeat=many):
                at = A
                for number in thing:
                    pair = pairs[number] if number < 6 else ()
                    at = pair[1 - pair.index(at)] if at in pair else None
                for other in (A, B, C, D, E):
                    self.look(A, other, thing, at == other)


class ShowsApart(unittest.TestCase):
    def setUp(self):
        self.names = book((A, B), (B, C), (D, E))

    def look(self, one, other, thing, wanted):
        self.assertIs(self.names.shows_apart(one, other, thing), wanted)
        self.assertIs(self.names.shows_apart(thing=thing, one=one, other=other), wanted)

    def test_a_class_in_any_order(self):
        for thing in itertools.permutations((A, B, C)):
            self.look(A, D, thing, True)
            self.look(B, F, thing, True)

    def test_twice(self):
        self.look(A, D, (A, B, A, C, C, B, A), True)
        self.look(F, D, (F, F), True)

    def test_without_one(self):
        self.look(A, D, (D, E), False)
        self.look(A, D, (), False)
        self.look(F, D, (A, B, C), False)
        self.look(F, D, (), False)

    def test_with_other(self):
        self.look(A, D, (A, B, C, D, E), False)
        self.look(A, F, (A, B, C, F), False)
        self.look(A, C, (A, B, C), False)
        self.look(A, A, (A, B, C), False)

    def test_with_more_than_the_class(self):
        self.look(A, F, (A, B, C, D, E), True)
        self.look(A, D, (A, B, C, F, ("fr", "Never")), True)

    def test_a_telling_with_just_one_of_its_names(self):
        self.look(A, D, (A, B), False)
        self.look(A, D, (A,), False)
        self.look(A, C, (A, B), False)
        self.look(A, F, (A, B, C, D), False)
        self.look(A, F, (A, B, C, E), False)

    def test_a_struck_telling_counts_no_more(self):
        self.names.strike(1)
        self.look(A, C, (A, B), True)
        self.look(C, A, (C,), True)
        self.look(A, C, (A,), False)

    def test_things_that_are_no_names(self):
        for thing in NO_NAMES:
            self.look(A, D, (A, B, C, thing), False)
            self.look(A, D, (thing, A, B, C), False)

    def test_lists_and_anything(self):
        self.look(A, D, [A, B, C], False)
        self.look(A, D, {A: 1, B: 1, C: 1}, False)
        self.look(A, D, {A, B, C}, False)
        self.look(A, D, (list(A), B, C), False)
        for thing in anything():
            self.look(A, D, thing, False)

    def test_what_it_takes_is_so(self):
        some = (A, B, C, D, E, F)
        for many in range(7):
            for thing in itertools.combinations(some, many):
                closed = all((one in thing) == (other in thing) for one, other in ((A, B), (B, C), (D, E)))
                for one, other in itertools.product(some, some):
                    self.look(one, other, thing, closed and one in thing and other not in thing)


class Called(unittest.TestCase):
    REISE, FAHRT, VOYAGE, TRIP = ("de", "Reise"), ("de", "Fahrt"), ("fr", "Voyage"), ("en", "Trip")

    def setUp(self):
        self.names = book((self.REISE, self.VOYAGE), (self.FAHRT, self.VOYAGE))

    def test_a_tongue_that_the_class_has(self):
        for name in (self.REISE, self.FAHRT, self.VOYAGE):
            self.assertEqual(self.names.called(name, "de"), self.FAHRT)
            self.assertEqual(self.names.called(tongue="fr", name=name), self.VOYAGE)

    def test_a_tongue_that_it_has_not(self):
        for name in (self.REISE, self.FAHRT, self.VOYAGE, self.TRIP):
            self.assertEqual(self.names.called(name, "it"), name)

    def test_a_name_never_told(self):
        self.assertEqual(self.names.called(self.TRIP, "en"), self.TRIP)
        self.assertEqual(self.names.called(self.TRIP, "de"), self.TRIP)

    def test_behind_tellings_and_strikes(self):
        self.assertEqual(self.names.called(self.REISE, "en"), self.REISE)
        number = self.names.tell(self.TRIP, self.FAHRT)
        self.assertEqual(self.names.called(self.REISE, "en"), self.TRIP)
        self.names.strike(1)
        self.assertEqual(self.names.called(self.REISE, "en"), self.REISE)
        self.assertEqual(self.names.called(self.VOYAGE, "de"), self.REISE)
        self.assertEqual(self.names.called(self.TRIP, "de"), self.FAHRT)
        self.names.strike(number)
        self.assertEqual(self.names.called(self.TRIP, "de"), self.TRIP)


if __name__ == "__main__":
    unittest.main()
