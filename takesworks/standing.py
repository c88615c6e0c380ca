"""What the deeds of a shelf that count come to together."""

from takesworks.entries import key_of
from takesworks.links import groups_in
from takesworks.namebook import Names
from takesworks.takes import links_between

# The kinds of deeds: a deed is a pair of its kind and what was told.
ENTRY = "entry"
ONE = "one"
SAME = "same"
DISC = "disc"


def things_of(deeds, kind):
    """What was told by the deeds of this kind, in their order."""
    return [thing for known, thing in deeds.values() if known == kind]


def book_with(pairs):
    """The book in which these pairs of names are told."""
    names = Names()
    for one, other in pairs:
        names.tell(one, other)
    return names


class Standing:
    """The book of names, the entries by their keys, their takes, and the discs by their labels."""

    def __init__(self, rules, deeds):
        self.names = book_with(things_of(deeds, ONE))
        self.by_key = {key_of(entry): entry for entry in things_of(deeds, ENTRY)}
        self.by_label = {disc.label: disc for disc in things_of(deeds, DISC)}
        self.links = links_between(self.names, rules, list(self.by_key.values()), things_of(deeds, SAME))
        self.all_takes = groups_in(self.links)
        self.take_of = {key: take for take in self.all_takes for key in take}


def fallen(groups, parts_by_member):
    """The groups that are not whole any more, each with the rising tuple of the parts that are left of it."""
    rows = [(group, tuple(sorted({parts_by_member[member] for member in group if member in parts_by_member})))
            for group in groups]
    return tuple([(group, parts) for group, parts in rows if parts != (group,)])


def what_falls(ahead, behind):
    """The classes of names and the takes that stand ahead, and behind no more, with their parts."""
    classes = ahead.names.classes()
    parts_by_name = {name: behind.names.class_of(name) for group in classes for name in group}
    return (fallen(classes, parts_by_name), fallen(ahead.all_takes, behind.take_of))
