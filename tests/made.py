"""What the tests of several modules are made of."""

from takesworks.namebook import Names


def book(*pairs):
    """A book in which these pairs of names were told."""
    names = Names()
    for one, other in pairs:
        names.tell(one, other)
    return names


def entry(key, code=None, title=None, players=None, day=None, length=None):
    """An entry that tells only what is handed in."""
    return (*key, code, title, players, day, length)
