"""What several modules ask of a thing of any kind."""

SMALL_LETTERS = "abcdefghijklmnopqrstuvwxyz"
LONGEST_WORD = 8


def is_whole(thing):
    """Whether it is a whole number: True and False are none."""
    return isinstance(thing, int) and not isinstance(thing, bool)


def is_within(thing, least, most):
    """Whether it is a whole number from least to most."""
    return is_whole(thing) and least <= thing <= most


def is_small_text(thing, most):
    """Whether it is a text of 1 to so many small letters a to z."""
    if not isinstance(thing, str) or not 1 <= len(thing) <= most:
        return False
    return all([sign in SMALL_LETTERS for sign in thing])


def is_word(thing):
    return is_small_text(thing, LONGEST_WORD)
