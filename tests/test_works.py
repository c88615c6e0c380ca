"""Point 14: is_work, leaves, path_to, part_at, span_of."""

import itertools
import unittest

from takesworks.errors import Lost, NoPath
from takesworks.namebook import Names
from takesworks.works import is_work, leaves, part_at, path_to, span_of
from made import book, chance_work, chain_of_works, named
from things import anything, nested, strangers, texts, truths, tuples

REISE, VOYAGE, TRIP = ("de", "Die Reise"), ("fr", "Le Voyage"), ("en", "The Trip")
# W has A (A1, A2 (A2a, A2b)), B, C (C1).
WORK = named("W", named("A", named("A1"), named("A2", named("A2a"), named("A2b"))), named("B"), named("C", named("C1")))
LEAVES = tuple(("de", text) for text in ("A1", "A2a", "A2b", "B", "C1"))
PLACES = {"W": ((), (0, 5)), "A": ((0,), (0, 3)), "A1": ((0, 0), (0, 1)), "A2": ((0, 1), (1, 3)),
          "A2a": ((0, 1, 0), (1, 2)), "A2b": ((0, 1, 1), (2, 3)), "B": ((1,), (3, 4)), "C": ((2,), (4, 5)),
          "C1": ((2, 0), (4, 5))}
NO_PATHS = [None, 0, 1, -1, 10 ** 29, *strangers(), *truths(), *texts()]


def parts_of(work, path=()):
    """Each part with its path, a work ahead of its parts."""
    found = [(path, work)]
    for number, part in enumerate(work[1]):
        found += parts_of(part, (*path, number))
    return found


def chance_works(many):
    return [chance_work(seed, 1 + seed % 12) for seed in range(many)]


class IsWork(unittest.TestCase):
    def look(self, thing, wanted):
        self.assertIs(is_work(thing), wanted)
        self.assertIs(is_work(thing=thing), wanted)

    def test_one_to_five_deep(self):
        for deep in range(1, 6):
            self.look(chain_of_works(deep), True)

    def test_six_deep_and_deeper(self):
        for deep in (6, 7, 30):
            self.look(chain_of_works(deep), False)

    def test_six_deep_at_one_place(self):
        for at in range(3):
            parts = [named("A"), named("B"), named("C")]
            parts[at] = chain_of_works(4)
            self.look(named("W", *parts), True)
            parts[at] = chain_of_works(5)
            self.look(named("W", *parts), False)

    def test_with_parts(self):
        self.look(WORK, True)
        for _, part in parts_of(WORK):
            self.look(part, True)
        for work in chance_works(60):
            self.look(work, True)

    def test_forty_parts(self):
        self.look(named("W", *[named(f"P{number}") for number in range(39)]), True)
        self.look(named("W", *[named(f"P{number}", *[named(f"P{number}.{inner}") for inner in range(4)])
                               for number in range(8)]), True)

    def test_a_name_twice_at_any_two_places(self):
        texts = list(PLACES)
        for one, other in itertools.permutations(texts, 2):
            self.look(renamed(WORK, one, other), False)

    def test_a_name_twice_in_another_tongue_or_with_capitals(self):
        self.look((REISE, ((("en", "Die Reise"), ()), (("de", "die Reise"), ()))), True)

    def test_pairs_alone(self):
        self.look((REISE, (), ()), False)
        self.look((REISE,), False)
        self.look((REISE, None), False)
        self.look((REISE, ((VOYAGE, (), ()),)), False)
        self.look((REISE, ((VOYAGE,),)), False)
        self.look(REISE, False)
        self.look((REISE, (VOYAGE,)), False)
        self.look((), False)

    def test_lists(self):
        self.look([REISE, ()], False)
        self.look((REISE, []), False)
        self.look((list(REISE), ()), False)
        self.look((REISE, [(VOYAGE, ())]), False)
        self.look((REISE, ([VOYAGE, ()],)), False)
        self.look((REISE, ((VOYAGE, []),)), False)
        self.look((REISE, ((list(VOYAGE), ()),)), False)

    def test_names_that_are_none(self):
        for thing in [*anything(), ("d", "A"), ("de", ""), ("de", " A"), ("De", "A"), ("de", "A", "B"), ("de",),
                      ("de", "A" * 41), ("de", "a,b"), ("de", "a:b")]:
            self.look((thing, ()), False)
            self.look((REISE, ((thing, ()),)), False)
            self.look((REISE, ((VOYAGE, ()), (TRIP, ((thing, ()),)))), False)

    def test_anything(self):
        for thing in anything():
            self.look(thing, False)
            self.look((REISE, thing), thing == () and isinstance(thing, tuple))
            self.look((REISE, (thing,)), False)
            self.look((REISE, ((VOYAGE, ()), thing)), False)
            self.look((REISE, ((VOYAGE, thing),)), thing == () and isinstance(thing, tuple))

    def test_nested_thirty_deep(self):
        for wrap in (lambda inner: (REISE, inner), lambda inner: (REISE, (inner,)), lambda inner: (inner, ()),
                     lambda inner: (inner, inner), lambda inner: [inner, inner], lambda inner: {"a": inner},
                     lambda inner: (REISE, (inner, inner))):
            self.look(nested(30, wrap), False)
            self.look((VOYAGE, (nested(29, wrap),)), False)

    def test_one_part_at_many_places(self):
        work = named("A")
        for text in "BCDE":
            work = named(text, *[work] * 60)
        self.look(work, False)


def renamed(work, text, other):
    """The work, in which who is called text is called other."""
    name, parts = work
    return (("de", other) if name == ("de", text) else name, tuple(renamed(part, text, other) for part in parts))


class Leaves(unittest.TestCase):
    def test_of_a_work(self):
        self.assertEqual(leaves(WORK), LEAVES)
        self.assertEqual(leaves(work=WORK), LEAVES)

    def test_without_parts(self):
        self.assertEqual(leaves((REISE, ())), (REISE,))

    def test_one_to_five_deep(self):
        for deep in range(1, 6):
            self.assertEqual(leaves(chain_of_works(deep)), (("de", "D1"),))

    def test_of_each_part(self):
        for work in [WORK, *chance_works(60)]:
            for _, part in parts_of(work):
                told = leaves(part)
                self.assertEqual(told, tuple(inner[0] for _, inner in parts_of(part) if inner[1] == ()))
                self.assertIs(type(told), tuple)

    def test_forty_parts(self):
        names = tuple(("de", f"P{number}") for number in range(39))
        self.assertEqual(leaves((REISE, tuple((name, ()) for name in names))), names)


class PathTo(unittest.TestCase):
    def test_of_each_part(self):
        for text, (path, _) in PLACES.items():
            told = path_to(WORK, ("de", text))
            self.assertEqual(told, path)
            self.assertIs(type(told), tuple)
            self.assertEqual(path_to(name=("de", text), work=WORK), path)
        for work in chance_works(60):
            for path, part in parts_of(work):
                self.assertEqual(path_to(work, part[0]), path)

    def test_of_one_to_five_deep(self):
        for deep in range(1, 6):
            for at in range(1, deep + 1):
                self.assertEqual(path_to(chain_of_works(deep), ("de", f"D{at}")), (0,) * (deep - at))

    def test_none(self):
        for name in (REISE, ("de", "w"), ("fr", "A1"), ("de", "A2c")):
            self.assertIsNone(path_to(WORK, name))
            self.assertIsNone(path_to(named("W"), name))


class PartAt(unittest.TestCase):
    def refused(self, path, work=WORK):
        with self.assertRaises(NoPath) as caught:
            part_at(work, path)
        self.assertIs(caught.exception.path, path)
        self.assertIsInstance(caught.exception, Lost)
        self.assertRaises(NoPath, part_at, path=path, work=work)

    def test_of_each_part(self):
        for work in [WORK, *chance_works(60)]:
            for path, part in parts_of(work):
                self.assertEqual(part_at(work, path), part)
                self.assertEqual(part_at(path=path, work=work), part)
                self.assertEqual(path_to(work, part_at(work, path)[0]), path)

    def test_the_work_itself(self):
        self.assertEqual(part_at(WORK, ()), WORK)
        self.assertEqual(part_at(named("W"), ()), named("W"))

    def test_a_number_too_great_or_below_nought(self):
        for path, part in parts_of(WORK):
            for number in (len(part[1]), len(part[1]) + 1, -1, -2, -3, 10 ** 29, -(10 ** 29)):
                self.refused((*path, number))
                self.refused((*path, number, 0))

    def test_truths_and_others_for_a_number(self):
        for thing in [None, True, False, "0", "", b"0", (), (0,), *strangers(), *tuples()]:
            self.refused((thing,))
            self.refused((0, thing))
            self.refused((thing, 0))
            self.refused((0, 1, thing))

    def test_one_number_more_behind_a_leaf(self):
        for path, part in parts_of(WORK):
            if part[1] == ():
                self.refused((*path, 0))
        self.refused((0,), named("W"))

    def test_no_tuples(self):
        for thing in NO_PATHS:
            self.refused(thing)
        for thing in ([], [0], [0, 1], "0", {}, {0: 1}, {0}):
            self.refused(thing)

    def test_nested_thirty_deep(self):
        for wrap in (lambda inner: (inner,), lambda inner: (0, inner), lambda inner: [inner], lambda inner: {0: inner}):
            self.refused(nested(30, wrap))
            self.refused((0, nested(29, wrap)))

    def test_what_is_handed_in_is_unchanged(self):
        thing = [0, {"a": [1]}]
        self.refused(thing)
        self.assertEqual(thing, [0, {"a": [1]}])


class SpanOf(unittest.TestCase):
    def test_the_work_each_part_each_leaf(self):
        for text, (_, span) in PLACES.items():
            for told in (span_of(WORK, ("de", text)), span_of(WORK, ("de", text), None),
                         span_of(WORK, ("de", text), Names()), span_of(names=None, name=("de", text), work=WORK)):
                self.assertEqual(told, span)
                self.assertIs(type(told), tuple)

    def test_of_any_work(self):
        for work in chance_works(60):
            for _, part in parts_of(work):
                low, high = span_of(work, part[0])
                self.assertEqual(leaves(work)[low:high], leaves(part))

    def test_none(self):
        for names in (None, Names(), book((REISE, VOYAGE)), book((("de", "A"), VOYAGE))):
            self.assertIsNone(span_of(WORK, REISE, names))
            self.assertIsNone(span_of(named("W"), REISE, names))

    def test_one_by_names(self):
        for text, (_, span) in PLACES.items():
            names = book((REISE, VOYAGE), (("de", text), VOYAGE))
            self.assertEqual(span_of(WORK, REISE, names), span)
            self.assertEqual(span_of(WORK, name=VOYAGE, names=names), span)
            self.assertIsNone(span_of(WORK, REISE))
            self.assertIsNone(span_of(WORK, TRIP, names))

    def test_one_with_several_the_first(self):
        order = list(PLACES)
        for texts in itertools.combinations(order, 3):
            for turned in itertools.permutations(texts):
                names = book(*[(("de", text), REISE) for text in turned])
                self.assertEqual(span_of(WORK, REISE, names), PLACES[texts[0]][1])

    def test_called_so_itself_though_one_ahead_is_one_with_it(self):
        for ahead, behind in itertools.combinations(PLACES, 2):
            names = book((("de", behind), ("de", ahead)))
            self.assertEqual(span_of(WORK, ("de", behind), names), PLACES[ahead][1])
            self.assertEqual(span_of(WORK, ("de", ahead), names), PLACES[ahead][1])
            self.assertEqual(span_of(WORK, ("de", behind)), PLACES[behind][1])

    def test_behind_tellings_and_strikes(self):
        names = Names()
        self.assertIsNone(span_of(WORK, REISE, names))
        names.tell(REISE, ("de", "B"))
        self.assertEqual(span_of(WORK, REISE, names), (3, 4))
        names.tell(("de", "A2"), REISE)
        self.assertEqual(span_of(WORK, REISE, names), (1, 3))
        self.assertEqual(span_of(WORK, ("de", "B"), names), (1, 3))
        names.strike(1)
        self.assertEqual(span_of(WORK, REISE, names), (3, 4))
        names.strike(0)
        self.assertIsNone(span_of(WORK, REISE, names))
        self.assertEqual(span_of(WORK, ("de", "B"), names), (3, 4))

    def test_what_is_handed_in_is_unchanged(self):
        names = book((REISE, ("de", "A2")))
        before = repr((WORK, names.classes()))
        span_of(WORK, REISE, names)
        leaves(WORK)
        path_to(WORK, REISE)
        part_at(WORK, (0, 1))
        self.assertEqual(repr((WORK, names.classes())), before)


if __name__ == "__main__":
    unittest.main()
