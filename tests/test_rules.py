"""Points 9 to 11: are_rules, alike, agree, why."""

import itertools
import unittest

from takesworks.days import Day
from takesworks.lengths import Length
from takesworks.namebook import Names
from takesworks.rules import agree, alike, are_rules, why
from made import book
from things import Stranger, anything, nested

FIELDS = ("code", "title", "players", "day", "length")
# All 31 rules that there are.
RULES = tuple(rule for many in range(1, 6) for rule in itertools.combinations(FIELDS, many))
A, B, C, D = [("de", sign) for sign in "ABCD"]
X, Y = ("en", "X"), ("en", "Y")


class AreRules(unittest.TestCase):
    def look(self, thing, wanted):
        self.assertIs(are_rules(thing), wanted)
        self.assertIs(are_rules(thing=thing), wanted)

    def test_each_rule_alone(self):
        for rule in RULES:
            self.look((rule,), True)

    def test_one_to_six_rules(self):
        for many in range(1, 7):
            self.look(RULES[:many], True)
            self.look(RULES[-many:][::-1], True)

    def test_none_and_seven(self):
        self.look((), False)
        for many in (7, 8, 31):
            self.look(RULES[:many], False)

    def test_fields_out_of_order_or_twice(self):
        for many in (2, 3):
            for rule in itertools.product(FIELDS, repeat=many):
                self.look((rule,), rule in RULES)
                self.look((("code",), rule), rule in RULES)
        self.look((FIELDS[::-1],), False)
        self.look((FIELDS + ("code",),), False)

    def test_no_fields_text(self):
        for text in ("", "Code", "codes", "cod", "house", "number", "by", "long", "name", " day", "day ", "e"):
            self.look(((text,),), False)
            self.look((("code", text),), False)
            self.look((("code",), (text,)), False)

    def test_an_empty_rule(self):
        self.look(((),), False)
        self.look((("code",), ()), False)
        self.look(((), ("code",)), False)

    def test_a_rule_twice(self):
        self.look((("code",), ("code",)), False)
        self.look((("code", "day"), ("title",), ("code", "day")), False)
        self.look((("code",), ("code", "day"), ("day",)), True)

    def test_lists(self):
        self.look([("code",)], False)
        self.look((["code"],), False)
        self.look((("code",), ["day"]), False)
        self.look(([],), False)
        self.look({("code",): 1}, False)
        self.look({("code",)}, False)

    def test_texts_in_the_place_of_rules(self):
        self.look(("code",), False)
        self.look("code", False)
        self.look(("code", "day"), False)

    def test_anything(self):
        for thing in anything():
            self.look(thing, False)
            self.look((thing,), False)
            self.look(((thing,),), False)
            self.look((("code", thing),), False)
            self.look((("code",), thing), False)

    def test_things_that_equal_everything(self):
        self.look(((Stranger(),),), False)
        self.look((Stranger(), ("code",)), False)

    def test_things_nested_thirty_deep(self):
        for wrap in (lambda inner: (inner,), lambda inner: ("code", inner), lambda inner: (("code",), inner)):
            self.look(nested(30, wrap), False)

    def test_what_is_handed_in_is_unchanged(self):
        thing = [["code"], [{"a": [4]}]]
        are_rules(thing)
        are_rules(tuple(thing))
        self.assertEqual(thing, [["code"], [{"a": [4]}]])


class Alike(unittest.TestCase):
    NAMES = book((A, X), (B, Y), (C, D))

    def look(self, field, one, other, wanted):
        for first, second in ((one, other), (other, one)):
            self.assertIs(alike(self.NAMES, field, first, second), wanted)
            self.assertIs(alike(other=second, one=first, field=field, names=self.NAMES), wanted)

    def test_code(self):
        self.look("code", "X12", "X12", True)
        self.look("code", "X12", "X13", False)
        self.look("code", "X1", "X12", False)

    def test_title(self):
        self.look("title", A, A, True)
        self.look("title", A, X, True)
        self.look("title", A, B, False)
        self.look("title", ("fr", "A"), A, False)
        self.look("title", ("fr", "Never"), ("fr", "Never"), True)

    def test_players(self):
        self.look("players", (A, B), (A, B), True)
        self.look("players", (A, B), (X, Y), True)
        self.look("players", (A, B), (A, Y), True)
        self.look("players", (A, B), (A,), False)
        self.look("players", (A, B), (X,), False)
        self.look("players", (A, B), (A, C), False)
        self.look("players", (A,), (B,), False)

    def test_players_of_unlike_number(self):
        self.look("players", (C, D), (C,), True)
        self.look("players", (C, D), (D,), True)
        self.look("players", (A, B, X, Y), (A, B), True)
        self.look("players", (A, B, X, Y), (A, X), False)
        self.look("players", (A, C, D), (A, X, C), True)
        self.look("players", (A, C, D), (A, X), False)

    def test_day(self):
        self.look("day", Day(1931, 4, 7), Day(1931, 4, 7), True)
        self.look("day", Day(1931, 4), Day(1931, 4, 7), False)
        self.look("day", Day(1931), Day(1932), False)

    def test_length(self):
        self.look("length", Length(187), Length(187), True)
        self.look("length", Length(187), Length(188), False)

    def test_behind_a_strike(self):
        names = book((A, X), (B, X))
        self.assertIs(alike(names, "title", A, B), True)
        self.assertIs(alike(names, "players", (A,), (B,)), True)
        names.strike(0)
        self.assertIs(alike(names, "title", A, B), False)
        self.assertIs(alike(names, "players", (A,), (B,)), False)

    def test_players_as_the_document_words_it(self):
        some = sorted((A, B, C, D, X, Y))
        groups = [group for many in (1, 2, 3) for group in itertools.combinations(some, many)]
        for one, other in itertools.product(groups, groups):
            wanted = (all(any(self.NAMES.are_one(here, there) for there in other) for here in one)
                      and all(any(self.NAMES.are_one(here, there) for here in one) for there in other))
            self.assertIs(alike(self.NAMES, "players", one, other), wanted)


class Agree(unittest.TestCase):
    NAMES = book((A, X), (B, Y))
    ONE = ("ab", 0, "X12", A, (A, B), Day(1931, 4, 7), Length(187))
    OTHER = ("cd", 7, "X12", X, (X, Y), Day(1931, 4, 7), Length(187))
    UNLIKE = {"code": "X13", "title": B, "players": (X,), "day": Day(1931, 4), "length": Length(188)}

    def look(self, rule, one, other, wanted):
        for first, second in ((one, other), (other, one)):
            self.assertIs(agree(self.NAMES, rule, first, second), wanted)
            self.assertIs(agree(rule=rule, names=self.NAMES, other=second, one=first), wanted)

    def changed(self, field, thing):
        at = 2 + FIELDS.index(field)
        return (*self.OTHER[:at], thing, *self.OTHER[at + 1:])

    def test_all_alike(self):
        for rule in RULES:
            self.look(rule, self.ONE, self.OTHER, True)

    def test_one_field_unlike(self):
        for rule in RULES:
            for field in FIELDS:
                self.look(rule, self.ONE, self.changed(field, self.UNLIKE[field]), field not in rule)

    def test_one_field_not_told(self):
        for rule in RULES:
            for field in FIELDS:
                self.look(rule, self.ONE, self.changed(field, None), field not in rule)

    def test_a_field_that_neither_tells(self):
        bare = ("ab", 0, None, None, None, None, None)
        for rule in RULES:
            self.look(rule, bare, ("cd", 1, None, None, None, None, None), False)
            self.look(rule, bare, bare, False)


class Why(unittest.TestCase):
    NAMES = book((A, X))
    ONE = ("ab", 0, "X12", A, None, Day(1931), None)
    OTHER = ("cd", 7, "X12", X, None, Day(1931), None)
    STRANGE = ("cd", 8, "X13", B, None, Day(1932), None)

    def look(self, rules, one, other, wanted):
        for first, second in ((one, other), (other, one)):
            for told in (why(self.NAMES, rules, first, second),
                         why(one=first, other=second, rules=rules, names=self.NAMES)):
                self.assertEqual(told, wanted)
                self.assertIs(type(told), type(wanted))

    def test_the_least_number(self):
        self.look((("code",),), self.ONE, self.OTHER, 0)
        self.look((("length",), ("code",), ("title",)), self.ONE, self.OTHER, 1)
        self.look((("players",), ("length",), ("code", "length"), ("title", "players"), ("title", "day"), ("day",)),
                  self.ONE, self.OTHER, 4)
        self.look((("players",), ("length",), ("code", "length"), ("title", "players"), ("day", "length"), ("day",)),
                  self.ONE, self.OTHER, 5)

    def test_none(self):
        self.look((("code",), ("title",), ("day",)), self.ONE, self.STRANGE, None)
        self.look((("length",), ("players",)), self.ONE, self.OTHER, None)

    def test_by_names_that_are_one(self):
        self.look((("title",),), self.ONE, self.OTHER, 0)
        self.assertIsNone(why(Names(), (("title",),), self.ONE, self.OTHER))


if __name__ == "__main__":
    unittest.main()
