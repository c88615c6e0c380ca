"""Entries of a house's list: what it tells of a recording."""

from takesworks.days import Day
from takesworks.kinds import are_rising, is_text_of, is_whole, is_word
from takesworks.lengths import Length
from takesworks.names import is_name

FIELDS = ("code", "title", "players", "day", "length")
# House and number stand ahead of the fields.
KEY_PARTS = 2
LONGEST_CODE = 12
CODE_SIGNS = "ABCDEFGHIJKLMNOPQRSTUVWXYZ0123456789"
MOST_PLAYERS = 8


def is_key(thing):
    """Whether it, of any kind, is a house and a number."""
    if not isinstance(thing, tuple) or len(thing) != KEY_PARTS:
        return False
    house, number = thing
    return is_word(house) and is_whole(number) and number >= 0


def is_code(thing):
    return is_text_of(thing, CODE_SIGNS, 1, LONGEST_CODE)


def are_players(thing):
    """Whether it is a rising tuple of names, neither too few nor too many."""
    if not isinstance(thing, tuple) or not 1 <= len(thing) <= MOST_PLAYERS:
        return False
    return all([is_name(player) for player in thing]) and are_rising(thing)


def is_entry(thing):
    """Whether it, of any kind, is an entry."""
    if not isinstance(thing, tuple) or len(thing) != KEY_PARTS + len(FIELDS):
        return False
    house, number, code, title, players, day, length = thing
    return (is_key((house, number)) and (code is None or is_code(code)) and (title is None or is_name(title))
            and (players is None or are_players(players)) and (day is None or isinstance(day, Day))
            and (length is None or isinstance(length, Length)))


def key_of(entry):
    return entry[:KEY_PARTS]


def field_of(entry, field):
    """What the entry tells in this field; None where it tells nothing."""
    return entry[KEY_PARTS + FIELDS.index(field)]


def each_two(entries):
    """Each two of the entries, in their order."""
    return [(one, other) for at, one in enumerate(entries) for other in entries[at + 1:]]
