"""Lengths of takes, in seconds."""

from takesworks.errors import NoLength
from takesworks.kinds import is_whole, is_within

MOST_SECONDS = 359999


def beyond_minutes(seconds):
    """How many seconds are left beyond the full minutes."""
    return seconds % 60


class Length:
    """How long a take is."""

    def __init__(self, seconds):
        if not is_within(seconds, 0, MOST_SECONDS):
            raise NoLength(seconds)
        self.seconds = seconds

    def __eq__(self, other):
        return isinstance(other, Length) and self.seconds == other.seconds

    def __str__(self):
        return f"{self.seconds // 60}:{beyond_minutes(self.seconds):02d}"

    def __repr__(self):
        return f"Length({self.seconds})"


def together(lengths, start=0):
    """The Length of start seconds and of all the lengths."""
    # Without this, lengths behind it would lift a start below 0 to a Length.
    if not is_whole(start) or start < 0:
        raise NoLength(start)
    return Length(start + sum([length.seconds for length in lengths]))


def apart(one, other):
    """By how many seconds the two differ."""
    return abs(one.seconds - other.seconds)
