"""Small worlds of deeds for a shelf, and all that a shelf tells of them."""

import itertools
import random

from takesworks.customs import Custom
from takesworks.days import Day
from takesworks.discs import Disc
from takesworks.lengths import Length
from takesworks.shelves import Shelf
from takesworks.takes import takes
from made import book, entry

KEYS = (("a", 0), ("a", 1), ("a", 10), ("b", 2), ("b", 3))
TITLES = (("de", "Die Reise"), ("en", "A Trip"), ("fr", "Le Voyage"), ("de", "Ende"))
PLAYERS = (("de", "Bach"), ("en", "Ella"), ("fr", "Elle"), ("it", "Zoe"))
NAMES = TITLES + PLAYERS
LABELS = ("ab", "b", "c")
RULES = (("code",), ("title", "day"), ("players", "length"))
CUSTOM = Custom(tuple((sign,) for sign in "abcdefghijklmnopqrstuvwxyz"), ("die", "le", "a"))
DAYS = (Day(1931), Day(1931, 4), Day(1931, 4, 7), Day(1930, 12, 31), Day(1932))


def chance_entry(chance, key):
    def told(thing, likely):
        return thing if chance.random() < likely else None
    players = tuple(sorted(chance.sample(PLAYERS, chance.randrange(1, 3))))
    return entry(key, told(chance.choice(("X", "Y", "Z")), 0.5), told(chance.choice(TITLES), 0.7), told(players, 0.7),
                 told(chance.choice(DAYS), 0.6), told(Length(chance.randrange(3)), 0.5))


def chance_disc(chance, label):
    return Disc(label, tuple(chance.choice(KEYS) for _ in range(chance.randrange(1, 5))))


def chance_deeds(seed, many):
    """So many deeds, as pairs of a method's name and its arguments, of which none is refused, nor any undone."""
    chance = random.Random(seed)
    keys, labels, deeds = [], [], []
    for _ in range(many):
        what = chance.choice(("put", "put", "one", "same", "lay"))
        if what == "put" and len(keys) < len(KEYS):
            key = chance.choice([key for key in KEYS if key not in keys])
            keys.append(key)
            deeds.append(("put", (chance_entry(chance, key),)))
        elif what == "lay" and len(labels) < len(LABELS):
            label = chance.choice([label for label in LABELS if label not in labels])
            labels.append(label)
            deeds.append(("lay", (chance_disc(chance, label),)))
        elif what == "same" and len(keys) > 1:
            deeds.append(("same", tuple(chance.sample(keys, 2))))
        else:
            deeds.append(("one", tuple(chance.sample(chance.choice((TITLES, PLAYERS, NAMES)), 2))))
    return deeds


def do(shelf, deed):
    what, told = deed
    return getattr(shelf, what)(*told)


def shelf_of(deeds, rules=RULES, slack=1, kind=Shelf):
    """A shelf to which these deeds were told."""
    shelf = kind(rules, slack)
    for deed in deeds:
        do(shelf, deed)
    return shelf


def goes_along(deed, other):
    """Whether the one deed is undone where the other one is."""
    return deed[0] == "same" and other[0] == "put" and other[1][0][:2] in deed[1]


def without(deeds, number):
    """The deeds that are left where the one with this number is undone."""
    return [deed for at, deed in enumerate(deeds) if at != number and not goes_along(deed, deeds[number])]


def all_told(shelf):
    """All that a shelf tells of these small worlds."""
    keys = [one[:2] for one in shelf.entries()]
    labels = [disc.label for disc in shelf.discs()]
    wished = [some for many in range(4) for some in itertools.combinations(keys, many)]
    return {
        "len": len(shelf), "takes": shelf.takes(), "entries": shelf.entries(), "classes": shelf.classes(),
        "discs": [str(disc) for disc in shelf.discs()], "clashes": shelf.clashes(),
        "joined": [shelf.joined(one, other) for one in keys for other in keys],
        "leads": [shelf.leads(label, number) for label in labels for number in range(6)],
        "rows_of": [shelf.rows_of(name) for name in NAMES],
        "rows_of_take": [shelf.rows_of_take(key) for key in KEYS],
        "played": [shelf.played(name) for name in NAMES],
        "titles_in": [shelf.titles_in(CUSTOM, tongue) for tongue in ("de", "en", "fr", "it")],
        "discs_for": [shelf.discs_for(some) for some in wished],
    }


def as_worded(deeds, rules=RULES):
    """The book of names, the entries, the takes and the discs that deeds come to."""
    names = book(*[told for what, told in deeds if what == "one"])
    entries = tuple(told[0] for what, told in deeds if what == "put")
    same = tuple(told for what, told in deeds if what == "same")
    discs = [told[0] for what, told in deeds if what == "lay"]
    return names, entries, takes(names, rules, entries, same), discs


def falls_as_worded(deeds, number):
    """What falls where this deed is undone, as the document words it."""
    names, _, ahead, _ = as_worded(deeds)
    rest_names, _, behind, _ = as_worded(without(deeds, number))
    classes = []
    for group in names.classes():
        if group not in rest_names.classes():
            classes.append((group, tuple(sorted({rest_names.class_of(name) for name in group}))))
    fallen = []
    for take in ahead:
        if take not in behind:
            fallen.append((take, tuple(sorted(part for part in behind if set(part) & set(take)))))
    return tuple(sorted(classes)), tuple(sorted(fallen))
