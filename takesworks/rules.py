"""Rules: the fields in which two entries must be alike to be of one take."""

from takesworks.entries import FIELDS, field_of
from takesworks.kinds import are_rising, are_unlike

MOST_RULES = 6


def is_field(thing):
    # A thing of another kind may call itself equal to a field.
    return isinstance(thing, str) and thing in FIELDS


def is_rule(thing):
    """Whether it is a tuple of one field or more, in their order."""
    if not isinstance(thing, tuple) or len(thing) == 0 or not all([is_field(field) for field in thing]):
        return False
    return are_rising([FIELDS.index(field) for field in thing])


def are_rules(thing):
    """Whether it, of any kind, is a tuple of unlike rules, neither too few nor too many."""
    if not isinstance(thing, tuple) or not 1 <= len(thing) <= MOST_RULES:
        return False
    return all([is_rule(rule) for rule in thing]) and are_unlike(thing)


def are_same_players(names, one, other):
    """Whether each of one's players is one with some of other's, and the other way about."""
    # A class is known by its least name.
    return {names.class_of(player)[0] for player in one} == {names.class_of(player)[0] for player in other}


def alike(names, field, one, other):
    """Whether two things that are told in this field are alike."""
    if field == "title":
        return names.are_one(one, other)
    if field == "players":
        return are_same_players(names, one, other)
    return one == other


def agree(names, rule, one, other):
    """Whether both entries tell all fields of the rule, alike."""
    for field in rule:
        here, there = field_of(one, field), field_of(other, field)
        if here is None or there is None or not alike(names, field, here, there):
            return False
    return True


def why(names, rules, one, other):
    """The least number of a rule by which both entries agree; None where they agree by none."""
    for number, rule in enumerate(rules):
        if agree(names, rule, one, other):
            return number
    return None
