"""What the tests of several modules are made of."""

from takesworks.namebook import Names


def book(*pairs):
    """A book in which these pairs of names were told."""
    names = Names()
    for one, other in pairs:
        names.tell(one, other)
    return names
