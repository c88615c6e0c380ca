"""Point 18 and (g) of point 3, as they speak of the told discs: fewest_discs, shows_held."""

import itertools
import random
import time
import unittest

from takesworks.wishes import fewest_discs, shows_held
from made import chance_held
from things import anything, nested

HELD = ((1, 2, 3), (3, 4), (4, 5, 6), (1, 6), (7,))


def fewest_as_worded(held, wishes):
    """As the document words it: all choices of discs, the shorter ones first, then as tuples rise."""
    lacking = [wish for wish in wishes if not any(wish in things for things in held)]
    if lacking:
        return ("lacks", min(lacking))
    for many in range(len(held) + 1):
        fitting = [discs for discs in itertools.combinations(range(len(held)), many)
                   if all(any(wish in held[number] for number in discs) for wish in wishes)]
        if fitting:
            return ("fewest", min(fitting))
    raise AssertionError


class FewestDiscs(unittest.TestCase):
    def look(self, held, wishes, wanted):
        told = fewest_discs(held, wishes)
        self.assertEqual(told, wanted)
        self.assertIs(type(told), tuple)
        self.assertIs(type(told[1]), int if told[0] == "lacks" else tuple)
        self.assertEqual(fewest_discs(wishes=wishes, held=held), wanted)

    def test_no_wishes(self):
        for held in ((), ((),), HELD):
            self.look(held, (), ("fewest", ()))

    def test_no_discs(self):
        self.look((), (4,), ("lacks", 4))
        self.look((), (0, 1, 2), ("lacks", 0))
        self.look(((), ()), (3, 9), ("lacks", 3))

    def test_lacks_the_least_wish(self):
        self.look(HELD, (1, 8, 9), ("lacks", 8))
        self.look(HELD, (0, 1, 8), ("lacks", 0))
        self.look(HELD, (8,), ("lacks", 8))
        self.look(HELD, (1, 10 ** 29), ("lacks", 10 ** 29))

    def test_as_few_as_may_be(self):
        self.look(HELD, (1,), ("fewest", (0,)))
        self.look(HELD, (7,), ("fewest", (4,)))
        self.look(HELD, (1, 2, 3, 4, 5, 6), ("fewest", (0, 2)))
        self.look(HELD, (1, 2, 3, 4, 5, 6, 7), ("fewest", (0, 2, 4)))
        self.look(HELD, (1, 4), ("fewest", (0, 1)))
        # Taking the disc with the most wishes first would take three.
        self.look(((1, 2, 3, 4), (1, 2, 5), (3, 4, 6)), (1, 2, 3, 4, 5, 6), ("fewest", (1, 2)))

    def test_of_these_the_least(self):
        self.look(((2,), (1,), (1, 3), (2, 3)), (1, 2, 3), ("fewest", (0, 2)))
        self.look(((1, 2), (3, 4), (1, 3), (2, 4)), (1, 2, 3, 4), ("fewest", (0, 1)))
        self.look(((9,), (5,), (1, 2), (3, 4), (1, 3), (2, 4)), (1, 2, 3, 4), ("fewest", (2, 3)))

    def test_discs_that_hold_the_same(self):
        self.look(((1, 2), (1, 2), (1, 2)), (1, 2), ("fewest", (0,)))
        self.look(((), (1,), (1,), (2,), (2,)), (1, 2), ("fewest", (1, 3)))

    def test_all_discs_are_wanted(self):
        held = tuple((number,) for number in range(12))
        self.look(held, tuple(range(12)), ("fewest", tuple(range(12))))
        self.look(held, tuple(range(0, 12, 2)), ("fewest", tuple(range(0, 12, 2))))

    def test_numbers_of_thirty_figures(self):
        self.look(((10 ** 29,), (0, 10 ** 30 - 1)), (10 ** 29, 10 ** 30 - 1), ("fewest", (0, 1)))

    def test_as_the_document_words_it(self):
        for seed in range(400):
            held, wishes = chance_held(seed, 6, 7)
            wanted = fewest_as_worded(held, wishes)
            self.look(held, wishes, wanted)
            if wanted[0] == "fewest":
                self.assertIs(shows_held(held, wishes, wanted[1]), True)

    def test_twelve_discs_and_twenty_wishes(self):
        start = time.perf_counter()
        wishes = tuple(range(20))
        for many in range(1, 12):
            chance = random.Random(many)
            held = tuple(tuple(sorted({*chance.sample(wishes, many), number, 19 - number})) for number in range(12))
            self.look(held, wishes, fewest_as_worded(held, wishes))
        self.assertLess(time.perf_counter() - start, 60)

    def test_what_is_handed_in_is_unchanged(self):
        before = repr(HELD)
        for _ in range(2):
            self.look(HELD, (1, 4), ("fewest", (0, 1)))
        self.assertEqual(repr(HELD), before)


class ShowsHeld(unittest.TestCase):
    WISHES = (1, 2, 3, 4, 5, 6)

    def look(self, thing, wanted, held=HELD, wishes=WISHES):
        self.assertIs(shows_held(held, wishes, thing), wanted)
        self.assertIs(shows_held(thing=thing, wishes=wishes, held=held), wanted)

    def test_the_told_discs(self):
        self.look((0, 2), True)
        for seed in range(200):
            held, wishes = chance_held(seed, 6, 7)
            answer, discs = fewest_discs(held, wishes)
            if answer == "fewest":
                self.look(discs, True, held, wishes)
                for at in range(len(discs)):
                    self.look(discs[:at] + discs[at + 1:], False, held, wishes)

    def test_one_more(self):
        for thing in ((0, 1, 2), (0, 2, 3), (0, 2, 4), (0, 1, 2, 3, 4)):
            self.look(thing, True)

    def test_one_fewer(self):
        for thing in ((0,), (2,), ()):
            self.look(thing, False)

    def test_others(self):
        for thing in ((0, 1), (0, 3), (1, 2), (0, 4), (1, 2, 3, 4)):
            self.look(thing, False)

    def test_not_rising(self):
        for thing in ((2, 0), (0, 2, 1), (1, 0, 2), (2, 1, 0)):
            self.look(thing, False)

    def test_twice(self):
        for thing in ((0, 0, 2), (0, 2, 2), (0, 2, 0), (0, 2, 0, 2)):
            self.look(thing, False)

    def test_truths(self):
        self.look((False, 2), False)
        self.look((0, True, 2), False)
        self.look((False,), False, ((1,),), (1,))
        self.look((0,), True, ((1,),), (1,))
        self.look((False, True), False, ((1,), (2,)), (1, 2))

    def test_numbers_that_no_disc_has(self):
        for thing in ((0, 2, 5), (-1, 0, 2), (0, 2, 10 ** 29), (-(10 ** 29), 0, 2), (0, -3), (-5, -3), (0, 2, 6)):
            self.look(thing, False)

    def test_lists(self):
        for thing in ([0, 2], [], {0: 2}, {0, 2}, ([0, 2],), ((0, 2),), "02", b"\x00\x02"):
            self.look(thing, False)

    def test_no_wishes(self):
        self.look((), True, wishes=())
        self.look((0,), True, wishes=())
        self.look((0, 1, 2, 3, 4), True, wishes=())
        self.look((5,), False, wishes=())
        self.look([], False, wishes=())
        self.look((), True, (), ())
        self.look((0,), False, (), ())

    def test_no_discs(self):
        self.look((), False, ())
        self.look((0,), False, ())

    def test_a_wish_that_no_disc_holds(self):
        for many in range(6):
            for thing in itertools.combinations(range(5), many):
                self.look(thing, False, wishes=(1, 8))

    def test_anything(self):
        for thing in anything():
            self.look(thing, False)
            self.look((thing,), False)
            self.look((0, thing), False)
            self.look((0, thing, 2), type(thing) is int and thing == 1)
            self.look((0, 2, thing), False)
            self.look((thing, 2), type(thing) is int and thing == 0)

    def test_nested_thirty_deep(self):
        for wrap in (lambda inner: (inner,), lambda inner: (0, inner), lambda inner: (0, 2, inner), lambda inner: [inner],
                     lambda inner: {0: inner}):
            self.look(nested(30, wrap), False)
            self.look((0, 2, nested(29, wrap)), False)

    def test_what_it_takes_is_so(self):
        for seed in range(60):
            held, wishes = chance_held(seed, 4, 5)
            for many in range(4):
                for thing in itertools.product(range(-1, len(held) + 1), repeat=many):
                    rising = list(thing) == sorted(set(thing)) and all(0 <= number < len(held) for number in thing)
                    wanted = rising and all(any(wish in held[number] for number in thing) for wish in wishes)
                    self.assertIs(shows_held(held, wishes, thing), wanted)


if __name__ == "__main__":
    unittest.main()
