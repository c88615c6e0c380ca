"""Point 15, and (b) of point 3: most_in_order, heights, shows_most."""

import itertools
import random
import time
import unittest

from takesworks.namebook import Names
from takesworks.ordering import heights, most_in_order, shows_most
from takesworks.works import leaves, span_of
from made import book, chance_work, named
from things import anything, nested, strangers, truths

REISE, VOYAGE = ("de", "Die Reise"), ("fr", "Le Voyage")
# The leaves: A1, A2, B, C1, C2, C3.
WORK = named("W", named("A", named("A1"), named("A2")), named("B"), named("C", named("C1"), named("C2"), named("C3")))


def titles_of(*texts):
    return tuple(None if text is None else ("de", text) for text in texts)


def choices_as_worded(work, titles, names=None):
    """Each choice with how many leaves it has, as the document words it."""
    spans = [None if title is None else span_of(work, title, names) for title in titles]
    usable = [number for number, span in enumerate(spans) if span is not None]
    found = []
    for many in range(len(usable) + 1):
        for choice in itertools.combinations(usable, many):
            picked = [spans[number] for number in choice]
            if all(one[1] <= other[0] for one, other in zip(picked, picked[1:])):
                found.append((sum(high - low for low, high in picked), choice))
    return spans, found


def chance_world(seed):
    """A work, titles and a book (or none), by chance."""
    chance = random.Random(seed)
    work = chance_work(seed, chance.randrange(1, 13))
    names = [("de", f"P{number}") for number in range(14)] + [REISE, VOYAGE]
    titles = tuple(chance.choice([None, *names]) for _ in range(chance.randrange(8)))
    known = book(*[chance.sample(names, 2) for _ in range(chance.randrange(4))]) if chance.random() < 0.7 else None
    return work, titles, known


def big_world(seed):
    """A work of forty parts and thirty titles, each of a part."""
    chance = random.Random(seed)
    work = chance_work(seed, 40)
    return work, tuple(("de", f"P{chance.randrange(40)}") for _ in range(30))


class MostInOrder(unittest.TestCase):
    def look(self, titles, wanted, names=None, work=WORK):
        told = most_in_order(work, titles, names)
        self.assertEqual(told, wanted)
        self.assertEqual([type(part) for part in (told, *told)], [tuple, int, tuple, tuple])
        self.assertEqual(most_in_order(names=names, titles=titles, work=work), wanted)

    def test_no_titles(self):
        self.look((), (0, (), (0, 1, 2, 3, 4, 5)))
        self.look((), (0, (), (0,)), work=named("W"))

    def test_titles_without_a_span(self):
        self.look(titles_of(None), (0, (), (0, 1, 2, 3, 4, 5)))
        self.look((None, REISE, None, VOYAGE, ("fr", "A1")), (0, (), (0, 1, 2, 3, 4, 5)))

    def test_all_in_order(self):
        self.look(titles_of("A1", "A2", "B", "C1", "C2", "C3"), (6, (0, 1, 2, 3, 4, 5), ()))
        self.look(titles_of("A", "B", "C"), (6, (0, 1, 2), ()))
        self.look(titles_of("W"), (6, (0,), ()))
        self.look(titles_of("W"), (1, (0,), ()), work=named("W"))

    def test_out_of_order(self):
        self.look(titles_of("C", "B", "A"), (3, (0,), (0, 1, 2)))
        self.look(titles_of("A", "B", "C1", "C3", "C2"), (5, (0, 1, 2, 3), (4,)))
        self.look(titles_of("B", "A1", "A2", "B"), (3, (1, 2, 3), (3, 4, 5)))

    def test_of_as_many_the_least_choice(self):
        self.look(titles_of("C1", "A1"), (1, (0,), (0, 1, 2, 4, 5)))
        self.look(titles_of("A2", "A1", "B"), (2, (0, 2), (0, 3, 4, 5)))
        self.look(titles_of("A1", "A", "A2", "A"), (2, (0, 2), (2, 3, 4, 5)))
        self.look(titles_of("A", "A1", "A2"), (2, (0,), (2, 3, 4, 5)))
        self.look(titles_of("B", "C1", "C2", "C3", "C"), (4, (0, 1, 2, 3), (0, 1)))

    def test_titles_twice(self):
        self.look(titles_of("A", "A", "B", "B"), (3, (0, 2), (3, 4, 5)))
        self.look(titles_of("B", "A", "B", "A"), (3, (1, 2), (3, 4, 5)))

    def test_none_and_strange_titles_among_them(self):
        self.look((None, ("de", "A"), REISE, ("de", "B"), None), (3, (1, 3), (3, 4, 5)))

    def test_spans_within_others(self):
        self.look(titles_of("W", "A", "B", "C"), (6, (0,), ()))
        self.look(titles_of("A", "W", "B", "C"), (6, (0, 2, 3), ()))
        self.look(titles_of("A1", "W"), (6, (1,), ()))

    def test_with_names(self):
        names = book((REISE, ("de", "A")), (VOYAGE, ("de", "C2")))
        self.look((REISE, ("de", "B"), VOYAGE), (4, (0, 1, 2), (3, 5)), names)
        self.look((REISE, ("de", "B"), VOYAGE), (1, (1,), (0, 1, 3, 4, 5)))
        self.look((REISE, ("de", "B"), VOYAGE), (1, (1,), (0, 1, 3, 4, 5)), Names())

    def test_as_the_document_words_it(self):
        for seed in range(500):
            work, titles, names = chance_world(seed)
            spans, choices = choices_as_worded(work, titles, names)
            many = max(many for many, _ in choices)
            choice = min(choice for has, choice in choices if has == many)
            brought = {leaf for number in choice for leaf in range(*spans[number])}
            lacks = tuple(leaf for leaf in range(len(leaves(work))) if leaf not in brought)
            self.look(titles, (many, choice, lacks), names, work)
            self.assertEqual(many + len(lacks), len(leaves(work)))

    def test_thirty_titles_and_forty_parts(self):
        start = time.perf_counter()
        for seed in range(20):
            work, titles = big_world(seed)
            many, choice, lacks = most_in_order(work, titles)
            self.assertEqual(many, max(heights(work, titles)))
            self.assertEqual(many + len(lacks), len(leaves(work)))
            self.assertIs(shows_most(work, titles, many, heights(work, titles)), True)
        work = named("W", *[named(f"P{number}") for number in range(39)])
        titles = titles_of(*[f"P{number}" for number in range(30)])
        names = book(*[((f"en", f"Q{number}"), ("en", f"Q{number + 1}")) for number in range(60)])
        self.assertEqual(most_in_order(work, titles, names), (30, tuple(range(30)), tuple(range(30, 39))))
        self.assertLess(time.perf_counter() - start, 20)


class Heights(unittest.TestCase):
    def look(self, titles, wanted, names=None, work=WORK):
        told = heights(work, titles, names)
        self.assertEqual(told, wanted)
        self.assertIs(type(told), tuple)
        self.assertEqual({type(height) for height in told} | {int}, {int})
        self.assertEqual(heights(names=names, titles=titles, work=work), wanted)

    def test_none(self):
        self.look((), ())

    def test_each_title(self):
        self.look(titles_of("A1", "A2", "B", "C"), (1, 2, 3, 6))
        self.look(titles_of("A2", "A1", "B", "A", "C3"), (1, 1, 2, 2, 3))
        self.look(titles_of("W", "A", "W", "B"), (6, 2, 6, 3))
        self.look(titles_of("B", "B", "B"), (1, 1, 1))

    def test_0_where_there_is_no_span(self):
        self.look((None, ("de", "A"), REISE, ("de", "B"), None), (0, 2, 0, 3, 0))

    def test_with_names(self):
        names = book((REISE, ("de", "A")), (VOYAGE, ("de", "C2")))
        self.look((REISE, VOYAGE, ("de", "C3")), (2, 3, 4), names)
        self.look((REISE, VOYAGE, ("de", "C3")), (0, 0, 1))

    def test_as_the_document_words_it(self):
        for seed in range(500):
            work, titles, names = chance_world(seed)
            _, choices = choices_as_worded(work, titles, names)
            wanted = tuple(max([many for many, choice in choices if choice and choice[-1] == number], default=0)
                           for number in range(len(titles)))
            self.look(titles, wanted, names, work)


class ShowsMost(unittest.TestCase):
    TITLES = (("de", "A1"), ("de", "A2"), None, ("de", "C1"), ("de", "B"), ("de", "C"))
    OWN = (1, 2, 0, 3, 3, 6)

    def look(self, thing, wanted, many=6, titles=TITLES, names=None, work=WORK):
        self.assertIs(shows_most(work, titles, many, thing, names), wanted)
        self.assertIs(shows_most(names=names, thing=thing, many=many, titles=titles, work=work), wanted)

    def test_heights_own(self):
        self.assertEqual(heights(WORK, self.TITLES), self.OWN)
        for many in (6, 7, 100, 10 ** 29):
            self.look(self.OWN, True, many)
        for many in (5, 4, 0):
            self.look(self.OWN, False, many)

    def test_one_number_less(self):
        for at in range(6):
            thing = (*self.OWN[:at], self.OWN[at] - 1, *self.OWN[at + 1:])
            self.look(thing, False)

    def test_one_number_more(self):
        self.look((1, 2, 0, 4, 3, 6), True)
        self.look((1, 2, 6, 3, 3, 6), True)
        self.look((1, 2, 7, 3, 3, 6), False)
        self.look((1, 2, 0, 3, 4, 6), False)
        self.look((1, 2, 0, 3, 4, 7), False)
        self.look((1, 2, 0, 3, 4, 7), True, 7)
        self.look((2, 2, 0, 3, 3, 6), False)
        self.look((6,) * 6, False)
        self.look((0, 0, 0, 0, 0, 0), False)

    def test_a_list(self):
        self.look(list(self.OWN), False)
        self.look([], False, titles=())

    def test_truths_in_the_place_of_numbers(self):
        self.look((True, *self.OWN[1:]), False)
        self.look((1, 2, False, 3, 3, 6), False)
        self.look((True,), False, titles=titles_of("B"))
        self.look((1,), True, titles=titles_of("B"))

    def test_one_number_too_few_or_too_many(self):
        self.look(self.OWN[:5], False)
        self.look(self.OWN[1:], False)
        self.look((*self.OWN, 6), False)
        self.look((*self.OWN, 0), False)
        self.look((), False)

    def test_no_titles(self):
        self.look((), True, 0, ())
        self.look((0,), False, 0, ())

    def test_titles_without_a_span(self):
        self.look((0, 0), True, 0, (None, REISE))
        self.look((1, 0), False, 0, (None, REISE))
        self.look((5, 3), True, 5, (None, REISE))
        self.look((-1, 0), False, 5, (None, REISE))

    def test_a_title_without_a_span_lifts_nothing(self):
        self.look((6, 1), True, 6, (None, ("de", "B")))

    def test_with_names(self):
        names = book((REISE, ("de", "A")))
        titles = (REISE, ("de", "B"))
        self.look((2, 3), True, 3, titles, names)
        self.look((0, 1), False, 3, titles, names)
        self.look((0, 1), True, 3, titles)
        self.look((0, 1), True, 3, titles, Names())
        self.assertIs(shows_most(WORK, titles, 1, (0, 1)), True)

    def test_anything(self):
        for thing in anything():
            self.look(thing, False)
            self.look((thing, *self.OWN[1:]), type(thing) is int and thing == 1)
            self.look((*self.OWN[:5], thing), False)
            self.look((1, 2, thing, 3, 3, 6), type(thing) is int and thing in (0, 1))
            self.look((thing,), type(thing) is int and 0 <= thing <= 6, titles=(None,))
        for thing in [*strangers(), *truths(), None, "1"]:
            self.look((thing,) * 6, False)

    def test_nested_thirty_deep(self):
        for wrap in (lambda inner: (inner,), lambda inner: (*self.OWN[:5], inner), lambda inner: [inner] * 6,
                     lambda inner: (inner,) * 6, lambda inner: {1: inner}):
            self.look(nested(30, wrap), False)

    def test_whatever_it_takes_no_more_come(self):
        for seed in range(120):
            work, titles, names = chance_world(seed)
            titles = titles[:3]
            most = most_in_order(work, titles, names)[0]
            for many in range(most + 2):
                taken = [thing for thing in itertools.product(range(-1, many + 2), repeat=len(titles))
                         if shows_most(work, titles, many, thing, names)]
                self.assertEqual(taken != [], many >= most)
                self.assertEqual(heights(work, titles, names) in taken, many >= most)
                for thing in taken:
                    self.assertLessEqual(max(thing, default=0), many)

    def test_as_the_document_words_it(self):
        for seed in range(200):
            work, titles, names = chance_world(seed)
            spans, _ = choices_as_worded(work, titles, names)
            chance = random.Random(seed)
            own = heights(work, titles, names)
            for _ in range(30):
                many = chance.randrange(12)
                thing = tuple(height + chance.choice((0, 0, 0, 1, -1)) for height in own)
                wanted = all(0 <= height <= many for height in thing)
                for number, span in enumerate(spans):
                    if span is not None:
                        size = span[1] - span[0]
                        wanted = wanted and thing[number] >= size
                        for ahead in range(number):
                            if spans[ahead] is not None and spans[ahead][1] <= span[0]:
                                wanted = wanted and thing[number] >= size + thing[ahead]
                self.look(thing, wanted, many, titles, names, work)


class HandedIn(unittest.TestCase):
    def test_unchanged(self):
        names = book((REISE, ("de", "A")))
        titles = (REISE, None, ("de", "B"))
        thing = [1, [2], {3: 4}]
        before = repr((WORK, titles, names.classes(), thing))
        for _ in range(2):
            most_in_order(WORK, titles, names)
            heights(WORK, titles, names)
            shows_most(WORK, titles, 6, thing, names)
        self.assertEqual(repr((WORK, titles, names.classes(), thing)), before)


if __name__ == "__main__":
    unittest.main()
