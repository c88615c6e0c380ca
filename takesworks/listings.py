"""Lists of houses, joined: all that is told of each key."""

from takesworks.days import parts_of
from takesworks.entries import FIELDS, field_of, is_entry, is_key, key_of
from takesworks.errors import NoEntry
from takesworks.showing import show_entry


def place_in(field, thing):
    """What things that are told in this field are sorted by; unlike ones have unlike places."""
    if field == "day":
        # No month and no day has the number 0.
        return tuple([0 if part is None else part for part in parts_of(thing)])
    return thing.seconds if field == "length" else thing


def empty_sheet():
    """For each field the things that are told in it, by their places."""
    return {field: {} for field in FIELDS}


def copy_sheet(sheet, onto):
    """Puts all that stands on one sheet onto another."""
    for field in FIELDS:
        for place, thing in sheet[field].items():
            onto[field][place] = thing


def sheets_of_both(one, other):
    """All sheets of two listings, those of a key that both have as one; all of them new."""
    sheets = {}
    for known in (one, other):
        for key, sheet in known.items():
            copy_sheet(sheet, sheets.setdefault(key, empty_sheet()))
    return sheets


def only_one(things):
    """The one thing that is told; None where none is, or several are."""
    return list(things.values())[0] if len(things) == 1 else None


def entry_on(key, sheet):
    """The entry of a key with what alone is told in each field."""
    return key + tuple([only_one(sheet[field]) for field in FIELDS])


class Listing:
    """For each key a sheet with all that any entry tells of it."""

    def __init__(self, entries=None):
        self.sheets = {}
        for entry in () if entries is None else entries:
            self.put(entry)

    def __len__(self):
        return len(self.sheets)

    def __eq__(self, other):
        return isinstance(other, Listing) and self.sheets == other.sheets

    def __str__(self):
        return "\n".join([show_entry(entry) for entry in self.entries()])

    def __repr__(self):
        return f"Listing({len(self.sheets)})"

    def put(self, entry):
        """Takes in what the entry tells."""
        if not is_entry(entry):
            raise NoEntry(entry)
        sheet = self.sheets.setdefault(key_of(entry), empty_sheet())
        for field in FIELDS:
            thing = field_of(entry, field)
            if thing is not None:
                sheet[field][place_in(field, thing)] = thing

    def told(self, house, number, field):
        """The list of the unlike things that are told of this key in this field, sorted."""
        key = (house, number)
        if not is_key(key) or key not in self.sheets:
            return []
        things = self.sheets[key][field]
        return [things[place] for place in sorted(things)]

    def joined(self, other):
        """The Listing of all that either of the two tells."""
        both = Listing()
        both.sheets = sheets_of_both(self.sheets, other.sheets)
        return both

    def entries(self):
        """One entry for each key, by rising keys; what is told unlike is left out."""
        return tuple([entry_on(key, self.sheets[key]) for key in sorted(self.sheets)])

    def clashes(self):
        """The rising tuple of (house, number, field) of which several things are told."""
        return tuple(sorted([(*key, field) for key, sheet in self.sheets.items() for field in FIELDS
                             if len(sheet[field]) > 1]))
