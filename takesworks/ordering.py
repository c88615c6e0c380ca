"""Titles in order: how much of a work a row of titles brings, and the heights that show that no more comes."""

from takesworks.kinds import is_within
from takesworks.works import leaves, span_of


def spans_of(work, titles, names):
    """For each title its span, None where it has none."""
    return [None if title is None else span_of(work, title, names) for title in titles]


def leaves_within(span):
    """How many leaves a span has."""
    return span[1] - span[0]


def is_ahead(one, other):
    """Whether one span ends where the other begins, or ahead of there."""
    return one[1] <= other[0]


def best_of(choices):
    """Of pairs of a choice's leaves and the choice: the most leaves, of these the least; (0, ()) of none."""
    return min([(0, ()), *choices], key=lambda known: (-known[0], known[1]))


def best_by_first(spans):
    """For each title with a span the best of the choices that begin with it, and how many leaves that has."""
    best = {}
    for number in reversed(range(len(spans))):
        span = spans[number]
        if span is not None:
            many, rest = best_of([best[later] for later in best if is_ahead(span, spans[later])])
            best[number] = (leaves_within(span) + many, (number, *rest))
    return best


def most_in_order(work, titles, names=None):
    """How many leaves come at most, the least choice by which as many come, and the leaves that lack."""
    spans = spans_of(work, titles, names)
    many, choice = best_of(list(best_by_first(spans).values()))
    chosen = [spans[number] for number in choice]
    lacks = [leaf for leaf in range(len(leaves(work))) if not any([low <= leaf < high for low, high in chosen])]
    return (many, choice, tuple(lacks))


def least_height(spans, known, number):
    """How high a title with a span is at least, where the titles ahead of it are as high as told."""
    span = spans[number]
    below = [known[at] for at in range(number) if spans[at] is not None and is_ahead(spans[at], span)]
    return leaves_within(span) + max(below, default=0)


def heights(work, titles, names=None):
    """For each title the most leaves that choices have that end with it; 0 where it has no span."""
    spans = spans_of(work, titles, names)
    found = []
    for number, span in enumerate(spans):
        found.append(0 if span is None else least_height(spans, found, number))
    return tuple(found)


def shows_most(work, titles, many, thing, names=None):
    """Whether the thing, of any kind, is a tuple of heights that shows that no choice has more leaves than many."""
    if not isinstance(thing, tuple) or len(thing) != len(titles):
        return False
    if not all([is_within(height, 0, many) for height in thing]):
        return False
    spans = spans_of(work, titles, names)
    return all([thing[number] >= least_height(spans, thing, number) for number in range(len(spans))
                if spans[number] is not None])
