"""Point 11, and (a) of point 3: takes, joined, shows_joined, shows_parted."""

import itertools
import random
import time
import unittest

from takesworks.days import Day
from takesworks.lengths import Length
from takesworks.namebook import Names
from takesworks.takes import joined, shows_joined, shows_parted, takes
from made import book, entry
from things import anything, nested

REISE, VOYAGE, TRIP, OTHER = ("de", "Reise"), ("fr", "Voyage"), ("en", "Trip"), ("de", "Andere")
BACH, ELLA = ("de", "Bach"), ("en", "Ella")
NAMES = book((REISE, VOYAGE), (VOYAGE, TRIP))
RULES = (("code",), ("title", "day"))
A, B, C, D, E, F = [("h", number) for number in range(6)]
# A and B by their code, B and C by title and day, C and D by a pair; E and F stand alone.
ENTRIES = (entry(A, "X1"), entry(B, "X1", REISE, day=Day(1931)), entry(C, "X2", TRIP, day=Day(1931)),
           entry(D, "X3", TRIP), entry(E, "X4"), entry(F))
SAME = ((C, D),)
KEYS = (A, B, C, D, E, F)
LINKED = ((A, B), (B, C), (C, D))


def links_as_worded(names, rules, entries, same):
    """Each two linked keys, either way about, found as the document words it."""
    fields = ("code", "title", "players", "day", "length")
    found = set()
    for one, other in itertools.permutations(entries, 2):
        for rule in rules:
            told = [(field, one[2 + fields.index(field)], other[2 + fields.index(field)]) for field in rule]
            if all(here is not None and there is not None and as_alike(names, field, here, there)
                   for field, here, there in told):
                found.add((one[:2], other[:2]))
    for one, other in same or ():
        found |= {(one, other), (other, one)}
    return found


def as_alike(names, field, here, there):
    if field == "title":
        return there in names.class_of(here)
    if field == "players":
        return (all(any(names.are_one(one, other) for other in there) for one in here)
                and all(any(names.are_one(one, other) for one in here) for other in there))
    return here == there


def rows_as_worded(links, keys, one, other):
    """All rows of linked keys from one to other without a key twice."""
    waiting, found = [(one,)], []
    while waiting:
        row = waiting.pop()
        if row[-1] == other:
            found.append(row)
        else:
            waiting += [(*row, key) for key in keys if key not in row and (row[-1], key) in links]
    return found


def chance_world(seed):
    """Names, rules, up to seven entries and pairs told the same, by chance."""
    chance = random.Random(seed)
    some = [("de", sign) for sign in "PQRST"]
    names = book(*[chance.sample(some, 2) for _ in range(chance.randrange(3))])
    fields = ("code", "title", "players", "day", "length")
    all_rules = [rule for many in (1, 2, 3) for rule in itertools.combinations(fields, many)]
    rules = tuple(chance.sample(all_rules, chance.randrange(1, 4)))
    entries = []
    for key in chance.sample([(house, number) for house in ("a", "b") for number in range(4)], chance.randrange(1, 8)):
        players = tuple(sorted(chance.sample(some, chance.randrange(1, 3))))
        things = [chance.choice(("X", "Y", "Z")), chance.choice(some), players, Day(1931, chance.randrange(1, 3)),
                  Length(chance.randrange(3))]
        entries.append((*key, *[thing if chance.randrange(3) else None for thing in things]))
    keys = [one[:2] for one in entries]
    many = chance.randrange(3) if len(keys) > 1 else 0
    return names, rules, tuple(entries), tuple(tuple(chance.sample(keys, 2)) for _ in range(many))


def by_sames(many, chance):
    """So many entries that tell nothing, told the same one by one; in any order."""
    keys = [("row", number) for number in range(many)]
    pairs = [pair if chance.randrange(2) else pair[::-1] for pair in zip(keys, keys[1:])]
    entries = [entry(key) for key in keys]
    chance.shuffle(pairs)
    chance.shuffle(entries)
    return keys, tuple(entries), tuple(pairs)


class Takes(unittest.TestCase):
    def test_by_rules_names_and_pairs(self):
        self.assertEqual(takes(NAMES, RULES, ENTRIES, SAME), ((A, B, C, D), (E,), (F,)))

    def test_by_each_rule_alone(self):
        self.assertEqual(takes(NAMES, RULES[:1], ENTRIES), ((A, B), (C,), (D,), (E,), (F,)))
        self.assertEqual(takes(NAMES, RULES[1:], ENTRIES), ((A,), (B, C), (D,), (E,), (F,)))
        self.assertEqual(takes(NAMES, (("title",),), ENTRIES), ((A,), (B, C, D), (E,), (F,)))

    def test_by_names_that_are_one_through_others(self):
        entries = (entry(A, title=REISE), entry(B, title=TRIP))
        names = book((REISE, VOYAGE), (VOYAGE, TRIP))
        self.assertEqual(takes(names, (("title",),), entries), ((A, B),))
        names.strike(0)
        self.assertEqual(takes(names, (("title",),), entries), ((A,), (B,)))
        self.assertEqual(takes(Names(), (("title",),), entries), ((A,), (B,)))

    def test_by_players(self):
        entries = (entry(A, players=(BACH, ELLA)), entry(B, players=(ELLA,)), entry(C, players=(BACH,)))
        self.assertEqual(takes(Names(), (("players",),), entries), ((A,), (B,), (C,)))
        self.assertEqual(takes(book((BACH, ELLA)), (("players",),), entries), ((A, B, C),))

    def test_days_and_lengths_must_be_equal(self):
        entries = (entry(A, day=Day(1931), length=Length(1)), entry(B, day=Day(1931, 4), length=Length(1)),
                   entry(C, day=Day(1931, 4), length=Length(2)))
        self.assertEqual(takes(Names(), (("day",),), entries), ((A,), (B, C)))
        self.assertEqual(takes(Names(), (("length",),), entries), ((A, B), (C,)))
        self.assertEqual(takes(Names(), (("day", "length"),), entries), ((A,), (B,), (C,)))

    def test_what_nobody_tells_links_nothing(self):
        entries = tuple(entry(key) for key in KEYS)
        rules = (("code",), ("title",), ("players",), ("day",), ("length",))
        self.assertEqual(takes(NAMES, rules, entries), tuple((key,) for key in KEYS))

    def test_pairs_either_way_about_and_twice(self):
        for same in (((C, D),), ((D, C),), ((C, D), (D, C)), ((C, D), (C, D))):
            self.assertEqual(takes(NAMES, RULES, ENTRIES, same), ((A, B, C, D), (E,), (F,)))
        self.assertEqual(takes(NAMES, RULES, ENTRIES, ((F, A), (E, F))), ((A, B, C, E, F), (D,)))

    def test_same_left_out_none_and_empty(self):
        wanted = ((A, B, C), (D,), (E,), (F,))
        for told in (takes(NAMES, RULES, ENTRIES), takes(NAMES, RULES, ENTRIES, None), takes(NAMES, RULES, ENTRIES, ()),
                     takes(NAMES, RULES, ENTRIES, same=None), takes(entries=ENTRIES, rules=RULES, names=NAMES)):
            self.assertEqual(told, wanted)

    def test_no_entries(self):
        self.assertEqual(takes(NAMES, RULES, ()), ())
        self.assertEqual(takes(NAMES, RULES, (), ()), ())

    def test_entries_in_any_order(self):
        for entries in itertools.permutations(ENTRIES):
            self.assertEqual(takes(NAMES, RULES, entries, SAME), ((A, B, C, D), (E,), (F,)))

    def test_rising(self):
        entries = (entry(("b", 10), "X"), entry(("b", 9), "Y"), entry(("a", 11), "X"), entry(("ab", 0), "Y"))
        self.assertEqual(takes(NAMES, RULES, entries), ((("a", 11), ("b", 10)), (("ab", 0), ("b", 9))))

    def test_tuples_are_told(self):
        told = takes(NAMES, RULES, ENTRIES, SAME)
        self.assertIs(type(told), tuple)
        self.assertEqual({type(take) for take in told}, {tuple})
        self.assertEqual({type(key) for take in told for key in take}, {tuple})

    def test_sixty_entries_and_sixty_pairs(self):
        chance = random.Random(7)
        some = [("de", f"N{number:02d}") for number in range(61)]
        names = book(*zip(some, some[1:]))
        rules = (("code", "title", "players", "day", "length"), ("code", "title", "players", "length"),
                 ("title", "players", "day", "length"), ("code", "players", "length"), ("title", "players", "length"),
                 ("players", "length"))
        entries = tuple(("ab", number, "X", chance.choice(some), tuple(sorted(chance.sample(some, 8))), Day(1931),
                         Length(number)) for number in range(60))
        same = tuple((("ab", number), ("ab", (number * 7 + 3) % 60)) for number in range(60) if number != 29)
        start = time.perf_counter()
        self.assertEqual(takes(names, rules, entries), tuple((one[:2],) for one in entries))
        told = takes(names, rules, entries, same)
        for one in entries:
            row = joined(names, rules, entries, ("ab", 0), one[:2], same)
            self.assertEqual(row is not None, any({("ab", 0), one[:2]} <= set(take) for take in told))
        self.assertLess(time.perf_counter() - start, 60)

    def test_as_the_document_words_it(self):
        for seed in range(200):
            names, rules, entries, same = chance_world(seed)
            links = links_as_worded(names, rules, entries, same)
            keys = [one[:2] for one in entries]
            wanted = {tuple(sorted(key for key in keys if rows_as_worded(links, keys, start, key))) for start in keys}
            told = takes(names, rules, entries, same)
            self.assertEqual(told, tuple(sorted(wanted)))
            for one, other in itertools.product(keys, keys):
                rows = rows_as_worded(links, keys, one, other)
                row = joined(names, rules, entries, one, other, same)
                self.assertEqual(row, min(rows, key=lambda keys: (len(keys), keys), default=None))
                self.assertIs(shows_joined(names, rules, entries, one, other, row, same), row is not None)
                take = [take for take in told if one in take][0]
                self.assertIs(shows_parted(names, rules, entries, one, other, take, same), row is None)

    def test_what_is_handed_in_is_unchanged(self):
        before = repr((RULES, ENTRIES, SAME, NAMES.classes()))
        for _ in range(2):
            takes(NAMES, RULES, ENTRIES, SAME)
            joined(NAMES, RULES, ENTRIES, A, D, SAME)
            shows_joined(NAMES, RULES, ENTRIES, A, D, (A, B, C, D), SAME)
            shows_parted(NAMES, RULES, ENTRIES, A, E, (A, B, C, D), SAME)
        self.assertEqual(repr((RULES, ENTRIES, SAME, NAMES.classes())), before)


class Joined(unittest.TestCase):
    def look(self, one, other, wanted, entries=ENTRIES, same=SAME):
        told = joined(NAMES, RULES, entries, one, other, same)
        self.assertEqual(told, wanted)
        self.assertIs(type(told), type(wanted))

    def test_none(self):
        for one, other in ((A, E), (E, A), (E, F), (D, F)):
            self.look(one, other, None)

    def test_a_key_and_itself(self):
        for key in KEYS:
            self.look(key, key, (key,))

    def test_rows(self):
        self.look(A, D, (A, B, C, D))
        self.look(D, A, (D, C, B, A))
        self.look(A, B, (A, B))
        self.look(B, D, (B, C, D))

    def test_same_left_out_none_and_empty(self):
        self.assertIsNone(joined(NAMES, RULES, ENTRIES, A, D))
        self.assertIsNone(joined(NAMES, RULES, ENTRIES, A, D, None))
        self.assertIsNone(joined(NAMES, RULES, ENTRIES, A, D, ()))
        self.assertEqual(joined(NAMES, RULES, ENTRIES, A, C), (A, B, C))

    def test_by_name(self):
        self.assertEqual(joined(same=SAME, other=D, one=A, entries=ENTRIES, rules=RULES, names=NAMES), (A, B, C, D))

    def test_the_shortest(self):
        self.look(A, D, (A, D), same=((D, A), (C, D)))
        self.look(A, D, (A, E, D), same=((C, D), (E, A), (D, E)))

    def test_of_the_shortest_the_least(self):
        # Pairs alone: from A to F by B, D and by C, E.
        entries = tuple(entry(key) for key in KEYS)
        same = ((A, C), (C, E), (E, F), (A, B), (B, D), (D, F))
        for turned in itertools.permutations(same):
            self.look(A, F, (A, B, D, F), entries, turned)
        self.look(F, A, (F, D, B, A), entries, same)
        self.look(A, F, (A, B, E, F), entries, ((A, C), (C, D), (D, F), (A, B), (B, E), (E, F)))
        self.look(A, F, (A, B, C, F), entries, ((A, B), (B, D), (B, C), (D, F), (C, F)))

    def test_in_any_order(self):
        for entries in itertools.permutations(ENTRIES):
            self.look(A, D, (A, B, C, D), entries)

    def test_long_rows_told_the_same_one_by_one(self):
        for seed in range(5):
            keys, entries, same = by_sames(60, random.Random(seed))
            self.look(keys[0], keys[59], tuple(keys), entries, same)
            self.look(keys[59], keys[0], tuple(keys[::-1]), entries, same)
            self.look(keys[20], keys[45], tuple(keys[20:46]), entries, same)
            self.assertEqual(takes(NAMES, RULES, entries, same), (tuple(keys),))
            round_about = (*same, (keys[59], keys[0]))
            self.look(keys[0], keys[58], (keys[0], keys[59], keys[58]), entries, round_about)

    def test_many_shortest_rows(self):
        # Nineteen squares in a row: two shortest ways through each.
        corners = [("m", 3 * number) for number in range(20)]
        same = []
        for house, number in corners[:19]:
            for side in (1, 2):
                same += [((house, number), (house, number + side)), ((house, number + side), (house, number + 3))]
        keys = sorted({key for pair in same for key in pair})
        wanted = tuple(key for key in keys if key[1] % 3 != 2)
        self.look(corners[0], corners[19], wanted, tuple(entry(key) for key in keys), tuple(same))


class ShowsJoined(unittest.TestCase):
    def look(self, one, other, thing, wanted, same=SAME):
        self.assertIs(shows_joined(NAMES, RULES, ENTRIES, one, other, thing, same), wanted)
        self.assertIs(shows_joined(same=same, thing=thing, other=other, one=one, entries=ENTRIES, rules=RULES,
                                   names=NAMES), wanted)

    def test_joineds_own(self):
        for one, other in itertools.product(KEYS, KEYS):
            row = joined(NAMES, RULES, ENTRIES, one, other, SAME)
            self.look(one, other, row, row is not None)

    def test_longer_ones(self):
        self.look(A, D, (A, B, A, B, C, D), True)
        self.look(A, A, (A, B, A), True)
        self.look(A, B, (A, B, C, D, C, B), True)
        self.look(A, B, (A, D, C, B), True, ((A, D), (D, C)))

    def test_a_key_beside_itself(self):
        self.look(A, A, (A, A), False)
        self.look(A, B, (A, A, B), False)
        self.look(A, B, (A, B, B), False)

    def test_with_one_key_otherwise(self):
        row = (A, B, C, D)
        for at in range(4):
            for key in [*KEYS, ("h", 6), ("i", 1), ("h", -1), ("h", 10 ** 29)]:
                thing = (*row[:at], key, *row[at + 1:])
                self.look(A, D, thing, thing == row)

    def test_a_truth_for_a_number(self):
        self.look(A, B, (A, B), True)
        self.look(A, B, (A, ("h", True)), False)
        self.look(A, B, (("h", False), B), False)
        self.look(A, C, (A, ("h", True), C), False)
        self.look(A, A, (("h", False),), False)

    def test_lists(self):
        self.look(A, B, [A, B], False)
        self.look(A, B, (list(A), B), False)
        self.look(A, B, (A, list(B)), False)
        self.look(A, B, {A: B}, False)
        self.look(A, A, A, False)
        self.look(A, A, [A], False)

    def test_empty(self):
        for one, other in itertools.product(KEYS, KEYS):
            self.look(one, other, (), False)

    def test_one_that_ends_or_begins_elsewhere(self):
        self.look(A, D, (A, B, C), False)
        self.look(A, D, (B, C, D), False)
        self.look(A, B, (B, A), False)
        self.look(A, E, (A,), False)
        self.look(A, E, (E,), False)
        self.look(E, F, (E, F), False)

    def test_a_leap(self):
        self.look(A, D, (A, D), False)
        self.look(A, D, (A, C, D), False)
        self.look(A, D, (A, B, D), False)

    def test_without_the_pair(self):
        for same in (None, (), ((A, D),)):
            self.look(A, D, (A, B, C, D), False, same)
        self.assertIs(shows_joined(NAMES, RULES, ENTRIES, A, D, (A, B, C, D)), False)
        self.assertIs(shows_joined(NAMES, RULES, ENTRIES, A, C, (A, B, C)), True)

    def test_anything(self):
        for thing in anything():
            self.look(A, B, thing, False)
            self.look(A, B, (thing,), False)
            self.look(A, B, (A, thing), False)
            self.look(A, B, (thing, B), False)
            self.look(A, C, (A, thing, C), False)
            self.look(A, C, (A, ("h", thing), C), thing == 1 and type(thing) is int)
            self.look(A, C, (A, (thing, 1), C), False)

    def test_nested_thirty_deep(self):
        for wrap in (lambda inner: (inner,), lambda inner: (A, inner), lambda inner: ("h", inner),
                     lambda inner: (inner, 1), lambda inner: [A, inner]):
            self.look(A, B, nested(30, wrap), False)
            self.look(A, B, (A, nested(29, wrap)), False)

    def test_what_it_takes_is_so(self):
        for many in range(5):
            for thing in itertools.product((A, B, C, D, E), repeat=many):
                steps = all(pair in LINKED or pair[::-1] in LINKED for pair in zip(thing, thing[1:]))
                for one, other in ((A, D), (A, A), (B, C), (A, E)):
                    wanted = many > 0 and steps and (thing[0], thing[-1]) == (one, other)
                    self.assertIs(shows_joined(NAMES, RULES, ENTRIES, one, other, thing, SAME), wanted)


class ShowsParted(unittest.TestCase):
    def look(self, one, other, thing, wanted, same=SAME):
        self.assertIs(shows_parted(NAMES, RULES, ENTRIES, one, other, thing, same), wanted)
        self.assertIs(shows_parted(same=same, thing=thing, other=other, one=one, entries=ENTRIES, rules=RULES,
                                   names=NAMES), wanted)

    def test_a_takes_keys_in_any_order(self):
        for thing in itertools.permutations((A, B, C, D)):
            self.look(A, E, thing, True)
            self.look(D, F, thing, True)
        self.look(E, A, (E,), True)

    def test_twice(self):
        self.look(A, E, (A, B, A, C, D, D, A), True)
        self.look(E, F, (E, E, E), True)

    def test_one_fewer(self):
        for key in (A, B, C, D):
            rest = tuple(one for one in (A, B, C, D) if one != key)
            self.look(rest[0], E, rest, False)
            self.look(key, E, rest, False)
        self.look(E, F, (), False)

    def test_with_other(self):
        self.look(A, D, (A, B, C, D), False)
        self.look(A, E, (A, B, C, D, E), False)
        self.look(A, A, (A, B, C, D), False)
        self.look(E, E, (E,), False)

    def test_without_one(self):
        self.look(E, F, (A, B, C, D), False)
        self.look(A, E, (F,), False)

    def test_with_more_than_a_take(self):
        self.look(A, F, (A, B, C, D, E), True)
        self.look(A, F, (E, D, C, B, A, E), True)

    def test_without_the_pair(self):
        for same in (None, ()):
            self.look(A, D, (A, B, C), True, same)
        self.look(A, D, (A, B, C), False)
        self.assertIs(shows_parted(NAMES, RULES, ENTRIES, A, D, (A, B, C)), True)
        self.assertIs(shows_parted(NAMES, RULES, ENTRIES, A, C, (A, B)), False)
        self.look(A, E, (A, B, C, D), False, ((C, D), (E, D)))

    def test_a_key_of_no_entry(self):
        for key in (("h", 6), ("i", 0), ("h", -1), ("H", 0), ("h", 10 ** 29), ("h", True), ("h", False)):
            self.look(A, E, (A, B, C, D, key), False)
            self.look(A, E, (key, A, B, C, D), False)
        self.look(B, E, (A, ("h", True), C, D), False)

    def test_lists(self):
        self.look(A, E, [A, B, C, D], False)
        self.look(A, E, (A, B, C, list(D)), False)
        self.look(A, E, {A: 1, B: 1, C: 1, D: 1}, False)
        self.look(A, E, {A, B, C, D}, False)
        self.look(E, A, E, False)

    def test_anything(self):
        for thing in anything():
            self.look(A, E, thing, False)
            self.look(A, E, (A, B, C, D, thing), False)
            self.look(A, E, (thing, A, B, C, D), False)
            self.look(A, E, (A, B, C, D, (thing, 0)), False)
            self.look(A, F, (A, B, C, D, ("h", thing)), type(thing) is int and thing in (0, 1))

    def test_nested_thirty_deep(self):
        for wrap in (lambda inner: (inner,), lambda inner: (A, inner), lambda inner: ("h", inner),
                     lambda inner: (inner, 1), lambda inner: [A, inner]):
            self.look(A, E, nested(30, wrap), False)
            self.look(A, E, (A, B, C, D, nested(29, wrap)), False)

    def test_what_it_takes_is_so(self):
        for many in range(7):
            for thing in itertools.combinations(KEYS, many):
                closed = all((one in thing) == (other in thing) for one, other in LINKED)
                for one, other in itertools.product(KEYS, KEYS):
                    wanted = closed and one in thing and other not in thing
                    self.assertIs(shows_parted(NAMES, RULES, ENTRIES, one, other, thing, SAME), wanted)


if __name__ == "__main__":
    unittest.main()
