"""Point 18 and (g) of point 3, as they speak of books: book_of, shows_none."""

import itertools
import random
import time
import unittest

from takesworks.books import book_of, shows_none
from takesworks.wishes import fewest_discs
from made import chance_held
from things import Stranger, anything, nested

# Wish 0 is on discs 0 and 1, wish 1 on 1 and 2, wish 2 on 0 and 2, wish 3 on 3 alone, wish 4 on none.
HELD = ((0, 2), (0, 1), (1, 2), (3,))
WISHES = (0, 1, 2, 3)
# No two discs hold all: disc 3 is wanted, and two of the others.
BOOK = ("take", 0, (("take", 1, (("left", 3), ("left", 3))), ("take", 2, (("left", 3), ("left", 3)))))


def fewest(held, wishes):
    """How many discs hold all; None where no discs do."""
    answer, discs = fewest_discs(held, wishes)
    return len(discs) if answer == "fewest" else None


def is_book_as_worded(held, wishes, taken, left, thing):
    """Whether it is a book, as the document words it."""
    def unheld(wish):
        return type(wish) is int and wish in wishes and not any(wish in held[disc] for disc in taken)
    if type(thing) is not tuple or not thing or type(thing[0]) is not str:
        return False
    if thing[0] == "take" and len(thing) == 3:
        _, wish, books = thing
        if left < 1 or not unheld(wish) or type(books) is not tuple:
            return False
        discs = [disc for disc in range(len(held)) if wish in held[disc]]
        return len(books) == len(discs) and all(is_book_as_worded(held, wishes, [*taken, disc], left - 1, book)
                                                for disc, book in zip(discs, books))
    if thing[0] == "left" and len(thing) == 2:
        return left == 0 and unheld(thing[1])
    if thing[0] == "apart" and len(thing) == 2:
        some = thing[1]
        if type(some) is not tuple or not all(unheld(wish) for wish in some) or list(some) != sorted(set(some)):
            return False
        return len(some) > left and not any(one in things and other in things for things in held
                                            for one, other in itertools.combinations(some, 2))
    return False


def spoilt(thing, others):
    """The thing with one place of it exchanged for each of the others, or left out, or told twice."""
    for other in others:
        yield other
    if isinstance(thing, tuple):
        for at, inner in enumerate(thing):
            yield thing[:at] + thing[at + 1:]
            yield (*thing[:at], inner, *thing[at:])
            for changed in spoilt(inner, others):
                yield (*thing[:at], changed, *thing[at + 1:])
        yield list(thing)
        yield thing[::-1]


class ShowsNone(unittest.TestCase):
    def look(self, thing, wanted, many=2, held=HELD, wishes=WISHES):
        self.assertIs(shows_none(held, wishes, many, thing), wanted)
        self.assertIs(shows_none(thing=thing, many=many, wishes=wishes, held=held), wanted)

    def test_a_book(self):
        self.look(BOOK, True)
        for many in (0, 1, 3, 4, 10 ** 29):
            self.look(BOOK, False, many)

    def test_left(self):
        for wish in WISHES:
            self.look(("left", wish), True, 0)
            self.look(("left", wish), False, 1)
            self.look(("left", wish), False, 2)
        for thing in (4, 5, -1, 10 ** 29, True, False, None, "0", (0,), [0], ()):
            self.look(("left", thing), False, 0)
        for thing in (("left",), ("left", 0, 0), ("left", 0, ()), ["left", 0], ("Left", 0), ("left ", 0), (0, "left")):
            self.look(thing, False, 0)

    def test_left_of_a_wish_that_is_held(self):
        self.look(("take", 3, (("left", 3),)), False, 1)
        self.look(("take", 3, (("left", 0),)), True, 1)
        self.look(("take", 0, (("left", 2), ("left", 3))), False, 1)
        self.look(("take", 0, (("left", 1), ("left", 1))), False, 1)
        self.look(("take", 0, (("left", 1), ("left", 2))), True, 1)

    def test_take(self):
        self.look(("take", 0, (("left", 3), ("left", 3))), True, 1)
        self.look(("take", 3, (("take", 0, (("left", 1), ("left", 2))),)), True)
        self.look(("take", 3, (("take", 1, (("left", 2), ("left", 0))),)), True)

    def test_take_where_no_disc_is_left(self):
        self.look(("take", 0, (("left", 3), ("left", 3))), False, 0)
        self.look(("take", 4, ()), False, 0, wishes=(0, 4))
        self.look(("take", 0, (("take", 1, ()), ("take", 2, ()))), False, 1)

    def test_take_of_a_wish_that_no_disc_holds(self):
        for many in (1, 2, 12, 10 ** 29):
            self.look(("take", 4, ()), True, many, wishes=(0, 4))
            self.look(("take", 4, (("left", 0),)), False, many, wishes=(0, 4))
        self.look(("take", 4, ()), False, 1)
        self.look(("take", 5, ()), False, 1)
        self.look(("take", 7, ()), True, 1, (), (7,))

    def test_take_of_a_wish_that_is_held(self):
        self.look(("take", 0, (("take", 0, (("left", 3), ("left", 3))), BOOK[2][1])), False)
        self.look(("take", 0, (("take", 2, (("left", 3), ("left", 3))), BOOK[2][1])), False)

    def test_books_too_few_too_many_in_another_order(self):
        books = BOOK[2]
        self.look(("take", 0, books[:1]), False)
        self.look(("take", 0, books[1:]), False)
        self.look(("take", 0, ()), False)
        self.look(("take", 0, (*books, books[1])), False)
        self.look(("take", 0, books[::-1]), False)
        self.look(("take", 0, (books[0], books[0])), False)
        self.look(("take", 0, list(books)), False)
        self.look(("take", 0, {0: books[0], 1: books[1]}), False)
        self.look(("take", 0), False)
        self.look((*BOOK, ()), False)

    def test_truths_for_wishes(self):
        self.look(("take", False, BOOK[2]), False)
        self.look(("take", True, (("left", 3), ("left", 3))), False, 1)
        self.look(("take", 1, (("left", 3), ("left", 3))), True, 1)
        self.look(("left", True), False, 0)
        self.look(("left", False), False, 0)
        self.look(("apart", (False, 3)), False, 1)
        self.look(("apart", (True, 3)), False, 1)
        self.look(("apart", (1, 3)), True, 1)

    def test_apart(self):
        for wish in (0, 1, 2):
            self.look(("apart", (wish, 3)), True, 1)
            self.look(("apart", (wish, 3)), True, 0)
            self.look(("apart", (wish, 3)), False, 2)
            self.look(("apart", (wish,)), True, 0)
            self.look(("apart", (wish,)), False, 1)

    def test_apart_of_wishes_that_no_disc_holds(self):
        self.look(("apart", (0, 4)), True, 1, wishes=(0, 4, 5))
        self.look(("apart", (4, 5)), True, 1, wishes=(0, 4, 5))
        self.look(("apart", (0, 4, 5)), True, 2, wishes=(0, 4, 5))
        self.look(("apart", (0, 4, 5)), False, 3, wishes=(0, 4, 5))

    def test_apart_two_of_them_on_one_disc(self):
        for some in ((0, 1), (0, 2), (1, 2), (0, 1, 2), (0, 1, 3), (0, 2, 3), (0, 1, 2, 3)):
            self.look(("apart", some), False, 1)
            self.look(("apart", some), False, 0)

    def test_apart_not_rising(self):
        for some in ((3, 0), (0, 0, 3), (0, 3, 3), (3, 3), (0, 0)):
            self.look(("apart", some), False, 1)
        self.look(("apart", (3, 3)), False, 0)

    def test_apart_too_few_or_no_wishes(self):
        for some in ((), (0,), (3,)):
            self.look(("apart", some), False, 1)
        self.look(("apart", ()), False, 0)
        for some in ((0, 4), (0, 5), (-1, 0), (0, 10 ** 29)):
            self.look(("apart", some), False, 1)

    def test_apart_of_what_is_held(self):
        self.look(("take", 3, (("apart", (0, 3)),)), False)
        self.look(("take", 0, (("apart", (1, 3)), ("apart", (2, 3)))), True)
        self.look(("take", 0, (("apart", (2, 3)), ("apart", (2, 3)))), False)
        self.look(("take", 0, (("apart", (1, 3)), ("apart", (1, 3)))), False)

    def test_apart_no_tuple(self):
        for some in ([0, 3], {0, 3}, {0: 3}, "03", 3, None, ((0, 3),)):
            self.look(("apart", some), False, 1)
        for thing in (("apart",), ("apart", (0, 3), ()), ("apart", 0, 3), ["apart", (0, 3)], ("Apart", (0, 3))):
            self.look(thing, False, 1)

    def test_no_wishes(self):
        for thing in (("left", 0), ("apart", ()), ("take", 0, ()), ()):
            for many in (0, 1):
                self.look(thing, False, many, wishes=())

    def test_spoilt_at_one_place(self):
        others = [*anything(), 2, 3, 4, "take", "left", "apart", ("left", 3), ("apart", (1, 3)), Stranger()]
        for book, many in ((BOOK, 2), (("take", 0, (("apart", (1, 3)), ("apart", (2, 3)))), 2), (("apart", (0, 3)), 1),
                           (("left", 3), 0)):
            self.look(book, True, many)
            for thing in spoilt(book, others):
                self.look(thing, is_book_as_worded(HELD, WISHES, [], many, thing), many)

    def test_anything(self):
        for thing in anything():
            for many in (0, 1, 2):
                self.look(thing, False, many)
                self.look((thing, 0), False, many)
                self.look((thing, 0, ()), False, many)
                self.look((thing, (0, 3)), False, many)
                self.look(("take", thing, thing), False, many)
                self.look(("take", 0, (thing, thing)), False, many)

    def test_nested_thirty_deep(self):
        for wrap in (lambda inner: (inner,), lambda inner: ("take", 0, inner), lambda inner: ("take", 0, (inner, inner)),
                     lambda inner: ("apart", inner), lambda inner: ("left", inner), lambda inner: [inner],
                     lambda inner: (inner, 0), lambda inner: {"take": inner}):
            for many in (0, 1, 2, 30, 10 ** 29):
                self.look(nested(30, wrap), False, many)
                self.look(("take", 0, (nested(28, wrap),) * 2), False, many)

    def test_whatever_book_it_takes_no_so_many_discs_hold_all(self):
        for seed in range(150):
            held, wishes = chance_held(seed, 4, 4)
            least = fewest(held, wishes)
            for many in range(4):
                chance = random.Random(1000 * seed + many)
                for _ in range(40):
                    thing = chance_book(chance, held, many)
                    taken = shows_none(held, wishes, many, thing)
                    self.assertIs(taken, is_book_as_worded(held, wishes, [], many, thing))
                    if taken:
                        self.assertTrue(least is None or least > many)


def chance_book(chance, held, left):
    """What may be a book."""
    wish = chance.randrange(4)
    what = chance.random()
    if left == 0 or what < 0.1:
        return ("left", wish)
    if what < 0.4:
        return ("apart", tuple(sorted(chance.sample(range(4), chance.randrange(1, 5)))))
    many = sum(wish in things for things in held)
    return ("take", wish, tuple(chance_book(chance, held, left - 1) for _ in range(many)))


class BookOf(unittest.TestCase):
    def look(self, held, wishes, many):
        """None where so many discs hold all, else a book; the same one each time."""
        told = book_of(held, wishes, many)
        least = fewest(held, wishes)
        self.assertIs(told is None, least is not None and least <= many)
        self.assertIs(shows_none(held, wishes, many, told), told is not None)
        if told is not None:
            self.assertIs(is_book_as_worded(held, wishes, [], many, told), True)
        copied = tuple(tuple(list(things)) for things in held), tuple(list(wishes))
        self.assertEqual(book_of(*copied, many), told)
        self.assertEqual(book_of(many=many, wishes=wishes, held=held), told)

    def test_each_many(self):
        for many in (0, 1, 2, 3, 4, 5, 12, 10 ** 29):
            self.look(HELD, WISHES, many)
        self.assertIsNotNone(book_of(HELD, WISHES, 2))
        self.assertIsNone(book_of(HELD, WISHES, 3))

    def test_no_wishes(self):
        for held in ((), ((),), HELD):
            for many in (0, 1, 5):
                self.assertIsNone(book_of(held, (), many))

    def test_a_wish_that_no_disc_holds(self):
        for many in (0, 1, 2, 12, 13, 1000, 10 ** 29):
            self.look(HELD, (0, 1, 4), many)
            self.look((), (7,), many)
            self.assertIsNotNone(book_of(HELD, (0, 1, 4), many))

    def test_by_chance(self):
        for seed in range(300):
            held, wishes = chance_held(seed, 6, 7)
            for many in range(8):
                self.look(held, wishes, many)

    def test_twelve_discs_and_twenty_wishes(self):
        start = time.perf_counter()
        wishes = tuple(range(20))
        worlds = [tuple(tuple(sorted({*random.Random(31 * many + number).sample(wishes, many), number, 19 - number}))
                        for number in range(12)) for many in range(1, 12)]
        # Three times four discs of which each two share a wish, and others share one each: nine discs are wanted.
        pairs = [pair for low in (0, 4, 8) for pair in itertools.combinations(range(low, low + 4), 2)]
        worlds.append(tuple(tuple(wish for wish, pair in enumerate(pairs) if disc in pair) for disc in range(12)))
        # Each three of six discs share a wish, twice.
        triples = list(itertools.combinations(range(6), 3))
        worlds.append(tuple(tuple(wish for wish, triple in enumerate(triples) if disc % 6 in triple) for disc in range(12)))
        for held in worlds:
            wished = tuple(wish for wish in wishes if any(wish in things for things in held))
            for many in range(13):
                self.look(held, wished, many)
        self.assertLess(time.perf_counter() - start, 120)

    def test_each_wish_on_a_disc_of_its_own(self):
        held = tuple((number,) for number in range(12))
        for many in range(13):
            self.look(held, tuple(range(12)), many)

    def test_what_is_handed_in_is_unchanged(self):
        before = repr((HELD, WISHES, BOOK))
        for many in range(4):
            book_of(HELD, WISHES, many)
            shows_none(HELD, WISHES, many, BOOK)
        self.assertEqual(repr((HELD, WISHES, BOOK)), before)


if __name__ == "__main__":
    unittest.main()
