"""Clashes: what two entries tell that cannot both be."""

from takesworks.days import may_be
from takesworks.entries import FIELDS, each_two, field_of, key_of
from takesworks.lengths import apart
from takesworks.rules import alike


def are_unlike_in(names, field, one, other, slack):
    """Whether two things that are told in this field clash."""
    if field == "day":
        return not may_be(one, other)
    if field == "length":
        return apart(one, other) > slack
    return not alike(names, field, one, other)


def clash(names, field, one, other, slack):
    """Whether two entries both tell this field, unlike."""
    here, there = field_of(one, field), field_of(other, field)
    return here is not None and there is not None and are_unlike_in(names, field, here, there, slack)


def clashes_in(names, entries, slack=0):
    """The rising tuple of (key, key, field) for each two entries and each field in which they clash."""
    pairs = each_two(sorted(entries, key=key_of))
    return tuple(sorted([(key_of(one), key_of(other), field) for one, other in pairs for field in FIELDS
                         if clash(names, field, one, other, slack)]))
