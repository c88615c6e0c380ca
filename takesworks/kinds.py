"""What several modules ask of a thing of any kind."""

SMALL_LETTERS = "abcdefghijklmnopqrstuvwxyz"
LONGEST_WORD = 8


def is_whole(thing):
    """Whether it is a whole number: True and False are none."""
    return isinstance(thing, int) and not isinstance(thing, bool)


def is_within(thing, least, most):
    """Whether it is a whole number from least to most."""
    return is_whole(thing) and least <= thing <= most


def is_text_of(thing, signs, least, most):
    """Whether it is a text of so many of these signs."""
    if not isinstance(thing, str) or not least <= len(thing) <= most:
        return False
    return all([sign in signs for sign in thing])


def is_small_text(thing, least, most):
    """Whether it is a text of so many small letters a to z."""
    return is_text_of(thing, SMALL_LETTERS, least, most)


def is_word(thing):
    return is_small_text(thing, 1, LONGEST_WORD)


def are_unlike(things):
    """Whether none of the texts, or tuples of texts, stands there twice."""
    return len(set(things)) == len(things)


def are_rising(things):
    """Whether each of these, which can be compared, is more than the one ahead of it."""
    return all([one < other for one, other in zip(things, things[1:])])
