"""Wishes: the fewest discs that hold all things that are wished."""

from takesworks.kinds import are_rising, is_within


def holders(held, wish):
    """The numbers of the discs that hold the wish, rising."""
    return [number for number, things in enumerate(held) if wish in things]


def not_among(things, wishes):
    """The wishes that are not among the things of a disc."""
    return tuple([wish for wish in wishes if wish not in things])


def longer_by_one(held, discs, missing):
    """Each choice of these discs and one behind them that holds some of the missing, with what it still misses."""
    first = discs[-1] + 1 if len(discs) > 0 else 0
    longer = [((*discs, number), not_among(held[number], missing)) for number in range(first, len(held))]
    # In a choice of the fewest, each disc holds a wish that no other one of it holds.
    return [(choice, rest) for choice, rest in longer if len(rest) < len(missing)]


def fewest_discs(held, wishes):
    """("lacks", the least wish that no disc holds), or ("fewest", the fewest discs with all wishes, the least)."""
    for wish in wishes:
        if len(holders(held, wish)) == 0:
            return ("lacks", wish)
    choices = [((), wishes)]
    while True:
        for discs, missing in choices:
            if len(missing) == 0:
                return ("fewest", discs)
        choices = [longer for discs, missing in choices for longer in longer_by_one(held, discs, missing)]


def shows_held(held, wishes, thing):
    """Whether the thing, of any kind, is a rising tuple of numbers of discs that hold all wishes together."""
    if not isinstance(thing, tuple) or not all([is_within(number, 0, len(held) - 1) for number in thing]):
        return False
    return are_rising(thing) and all([any([wish in held[disc] for disc in thing]) for wish in wishes])
