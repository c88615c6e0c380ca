"""Takes: which entries are one take, and the papers that show it."""

from takesworks.entries import each_two, is_key, key_of
from takesworks.links import groups_in, is_closed, is_row, linked, shortest_row
from takesworks.rules import why


def links_between(names, rules, entries, same):
    """The links of the entries' keys: by the rules, and as they are told the same."""
    pairs = [] if same is None else list(same)
    for one, other in each_two(entries):
        if why(names, rules, one, other) is not None:
            pairs.append((key_of(one), key_of(other)))
    return linked([key_of(entry) for entry in entries], pairs)


def takes(names, rules, entries, same=None):
    """The rising tuple of the takes, each the rising tuple of its keys."""
    return groups_in(links_between(names, rules, entries, same))


def joined(names, rules, entries, one, other, same=None):
    """The shortest row of linked keys from one to other, of the shortest the least; None where there is none."""
    return shortest_row(links_between(names, rules, entries, same), one, other)


def are_keys_in(links, thing):
    """Whether the thing, of any kind, is a tuple of keys that have links."""
    # A truth is equal to a number, so a look into the links alone would take it for one.
    return isinstance(thing, tuple) and all([is_key(key) and key in links for key in thing])


def shows_joined(names, rules, entries, one, other, thing, same=None):
    """Whether the thing, of any kind, is a row of linked keys from one to other."""
    links = links_between(names, rules, entries, same)
    if not are_keys_in(links, thing) or len(thing) == 0:
        return False
    return thing[0] == one and thing[-1] == other and is_row(links, thing)


def shows_parted(names, rules, entries, one, other, thing, same=None):
    """Whether the thing, of any kind, is a tuple of keys with one, without other, that no link leaves."""
    links = links_between(names, rules, entries, same)
    if not are_keys_in(links, thing):
        return False
    return one in thing and other not in thing and is_closed(links, thing)
