"""What the tests of several modules are made of."""

import random

from takesworks.namebook import Names


def book(*pairs):
    """A book in which these pairs of names were told."""
    names = Names()
    for one, other in pairs:
        names.tell(one, other)
    return names


def entry(key, code=None, title=None, players=None, day=None, length=None):
    """An entry that tells only what is handed in."""
    return (*key, code, title, players, day, length)


def named(text, *parts):
    """A work that is called so in German."""
    return (("de", text), parts)


def chain_of_works(deep):
    """A work with one part in each work, so many deep; the leaf is called D1, what it stands in D2, .."""
    work = named("D1")
    for at in range(2, deep + 1):
        work = named(f"D{at}", work)
    return work


def chance_work(seed, many):
    """A work of so many parts in all, by chance; they are called P0, P1, .."""
    chance = random.Random(seed)
    inner = {0: []}
    deep = {0: 1}
    for number in range(1, many):
        above = chance.choice([known for known in inner if deep[known] < 5])
        inner[above].append(number)
        inner[number] = []
        deep[number] = deep[above] + 1

    def work_at(number):
        return named(f"P{number}", *[work_at(part) for part in inner[number]])
    return work_at(0)


def chance_held(seed, most_discs, most_things):
    """What discs hold, and wishes, by chance; mostly each wish is held."""
    chance = random.Random(seed)
    things = range(chance.randrange(1, most_things + 1))
    held = tuple(tuple(thing for thing in things if chance.random() < 0.4)
                 for _ in range(chance.randrange(most_discs + 1)))
    wishes = tuple(thing for thing in things if chance.random() < 0.8)
    if chance.random() < 0.8:
        wishes = tuple(wish for wish in wishes if any(wish in one for one in held))
    return held, wishes
