"""Names: a tongue, and what something is called in it."""

from takesworks.kinds import is_small_text, is_text_of

SHORTEST_TONGUE = 2
LONGEST_TONGUE = 3
LONGEST_TEXT = 40
TEXT_SIGNS = "abcdefghijklmnopqrstuvwxyzABCDEFGHIJKLMNOPQRSTUVWXYZ0123456789 '-."


def is_tongue(thing):
    return is_small_text(thing, SHORTEST_TONGUE, LONGEST_TONGUE)


def is_name_text(thing):
    """Whether it is a text that may stand in a name."""
    if not is_text_of(thing, TEXT_SIGNS, 1, LONGEST_TEXT):
        return False
    return thing == thing.strip(" ") and "  " not in thing


def is_name(thing):
    """Whether it, of any kind, is a name."""
    if not isinstance(thing, tuple) or len(thing) != 2:
        return False
    return is_tongue(thing[0]) and is_name_text(thing[1])
