"""A shelf: deeds by which entries, names, pairs and discs are told, each of which may be undone."""

from takesworks.clashing import clashes_in
from takesworks.discs import Disc
from takesworks.entries import is_entry, is_key, key_of
from takesworks.errors import NoEntry, NoKey, NoNumber, Same, Struck, Twice
from takesworks.kinds import is_within, is_word
from takesworks.leading import discs_with, played_by, rows_to, takes_with, titles_by, where_leads
from takesworks.links import shortest_row
from takesworks.namebook import refuse_unless_two_names
from takesworks.standing import DISC, ENTRY, ONE, SAME, Standing, things_of, what_falls


class Shelf:
    """Deeds, numbered from 0; those that were undone count no more."""

    def __init__(self, rules, slack=0):
        self.rules = rules
        self.slack = slack
        self.many = 0
        self.deeds = {}
        # What the deeds come to; None where a deed was done since it was last asked for.
        self.known = None

    def __len__(self):
        return len(self.deeds)

    def standing(self):
        """What all deeds that count come to."""
        if self.known is None:
            self.known = Standing(self.rules, self.deeds)
        return self.known

    def deed(self, kind, thing):
        """Does one deed more; its number."""
        number = self.many
        self.many += 1
        self.deeds[number] = (kind, thing)
        self.known = None
        return number

    def has_key(self, key):
        """Whether the thing, of any kind, is the key of an entry that is there."""
        return is_key(key) and key in [key_of(entry) for entry in things_of(self.deeds, ENTRY)]

    def refuse_unless_keys(self, things):
        """Refuses the first of these things, of any kind, that is no key of an entry that is there."""
        for thing in things:
            if not self.has_key(thing):
                raise NoKey(thing)

    def put(self, entry):
        """The entry is there; the deed's number."""
        if not is_entry(entry):
            raise NoEntry(entry)
        if self.has_key(key_of(entry)):
            raise Twice(key_of(entry))
        return self.deed(ENTRY, entry)

    def one(self, name, other):
        """Two names are one's; the deed's number."""
        refuse_unless_two_names(name, other)
        return self.deed(ONE, (name, other))

    def same(self, key, other):
        """Two entries are the same take; the deed's number."""
        self.refuse_unless_keys((key, other))
        if key == other:
            raise Same(key)
        return self.deed(SAME, (key, other))

    def lay(self, disc):
        """The disc is there; the deed's number."""
        if disc.label in [known.label for known in things_of(self.deeds, DISC)]:
            raise Twice(disc.label)
        return self.deed(DISC, Disc(disc.label, disc.rows))

    def without(self, number):
        """The deeds that still count where the one with this number, of any kind, is undone."""
        if not is_within(number, 0, self.many - 1):
            raise NoNumber(number)
        if number not in self.deeds:
            raise Struck(number)
        rest = {known: deed for known, deed in self.deeds.items() if known != number}
        kind, thing = self.deeds[number]
        if kind != ENTRY:
            return rest
        key = key_of(thing)
        return {known: deed for known, deed in rest.items() if deed[0] != SAME or key not in deed[1]}

    def undo(self, number):
        """The deed counts no more, nor pairs with an entry that goes; the classes and the takes that fall."""
        rest = self.without(number)
        ahead = self.standing()
        self.deeds = rest
        self.known = Standing(self.rules, rest)
        return what_falls(ahead, self.known)

    def leaning(self, number):
        """What would fall if the deed were undone."""
        return what_falls(self.standing(), Standing(self.rules, self.without(number)))

    def takes(self):
        """The rising tuple of the takes."""
        return self.standing().all_takes

    def joined(self, one, other):
        """The shortest row of linked keys from one to other, of the shortest the least; None where there is none."""
        self.refuse_unless_keys((one, other))
        return shortest_row(self.standing().links, one, other)

    def entries(self):
        """The tuple of the entries, by rising keys."""
        by_key = self.standing().by_key
        return tuple([by_key[key] for key in sorted(by_key)])

    def discs(self):
        """The tuple of the discs, by rising labels."""
        by_label = self.standing().by_label
        return tuple([by_label[label] for label in sorted(by_label)])

    def classes(self):
        """The rising tuple of the classes of two names or more."""
        return self.standing().names.classes()

    def clashes(self):
        """The rising tuple of (key, key, field) in which two entries of one take clash."""
        now = self.standing()
        found = []
        for take in now.all_takes:
            found.extend(clashes_in(now.names, [now.by_key[key] for key in take], self.slack))
        return tuple(sorted(found))

    def leads(self, label, number):
        """The take, the titles and the players to which a row leads; None where it, of any kind, leads nowhere."""
        now = self.standing()
        if not is_word(label) or label not in now.by_label:
            return None
        rows = now.by_label[label].rows
        return where_leads(now, rows[number]) if is_within(number, 0, len(rows) - 1) else None

    def rows_of(self, name):
        """The rising tuple of the rows that lead to a name."""
        return rows_to(self.standing(), takes_with(self.standing(), name, ("title", "players")))

    def rows_of_take(self, key):
        """The rising tuple of the rows that lead to the take of a key."""
        now = self.standing()
        return rows_to(now, [now.take_of[key]]) if self.has_key(key) else ()

    def played(self, name):
        """The tuple of (day, take, others) of all takes with this player, by days."""
        return played_by(self.standing(), name)

    def titles_in(self, custom, tongue):
        """The tuple of the texts of all titles in a tongue, sorted and shown by the custom."""
        return titles_by(self.standing(), custom, tongue)

    def discs_for(self, keys):
        """("lacks", the first key whose take is on no disc), or ("fewest", the labels of the fewest discs)."""
        self.refuse_unless_keys(keys)
        return discs_with(self.standing(), keys)
