"""Discs: a label, and for each row the key of the entry that stands there."""

from takesworks.entries import is_key
from takesworks.errors import NoDisc
from takesworks.kinds import is_word
from takesworks.showing import show_keys

MOST_ROWS = 30


def are_rows(thing):
    """Whether it, of any kind, is a tuple of keys, neither too few nor too many."""
    return isinstance(thing, tuple) and 1 <= len(thing) <= MOST_ROWS and all([is_key(key) for key in thing])


class Disc:
    """What a disc is called, and its rows."""

    def __init__(self, label, rows):
        if not is_word(label):
            raise NoDisc("the label is a text of 1 to 8 small letters a to z")
        if not are_rows(rows):
            raise NoDisc("rows are a tuple of 1 to 30 pairs of a house and a number")
        self.label = label
        self.rows = rows

    def __len__(self):
        return len(self.rows)

    def __eq__(self, other):
        return isinstance(other, Disc) and self.label == other.label and self.rows == other.rows

    def __str__(self):
        return f"disc {self.label}: {show_keys(self.rows)}"

    def __repr__(self):
        return f"Disc('{self.label}', {len(self.rows)})"
