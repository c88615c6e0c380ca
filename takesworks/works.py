"""Works: a name and parts, which are works themselves; what has no parts is a leaf."""

from takesworks.errors import NoPath
from takesworks.kinds import is_within
from takesworks.names import is_name

DEEPEST = 5


def is_name_with_parts(thing):
    """Whether it is a name beside a tuple of whatever things."""
    return isinstance(thing, tuple) and len(thing) == 2 and is_name(thing[0]) and isinstance(thing[1], tuple)


def is_work(thing):
    """Whether it, of any kind, is a work."""
    seen = {}
    waiting = [(thing, 1)]
    while len(waiting) > 0:
        part, deep = waiting.pop()
        # No name is gone into twice, so parts that stand in many places do not make this long.
        if deep > DEEPEST or not is_name_with_parts(part) or part[0] in seen:
            return False
        seen[part[0]] = True
        waiting.extend([(inner, deep + 1) for inner in part[1]])
    return True


def leaves(work):
    """The tuple of the names of the leaves, in order."""
    name, parts = work
    if len(parts) == 0:
        return (name,)
    return tuple([leaf for part in parts for leaf in leaves(part)])


def path_to(work, name):
    """The tuple of parts' numbers that leads to who is called so; None where nothing is."""
    own_name, parts = work
    if own_name == name:
        return ()
    for number, part in enumerate(parts):
        path = path_to(part, name)
        if path is not None:
            return (number, *path)
    return None


def part_at(work, path):
    """The part to which a path, of any kind, leads."""
    if not isinstance(path, tuple):
        raise NoPath(path)
    part = work
    for number in path:
        parts = part[1]
        if not is_within(number, 0, len(parts) - 1):
            raise NoPath(path)
        part = parts[number]
    return part


def spans_in(work, start):
    """The name and the span of a work whose leaves are numbered from start, then those of all parts, in order."""
    name, parts = work
    if len(parts) == 0:
        return [(name, (start, start + 1))]
    within = []
    end = start
    for part in parts:
        rows = spans_in(part, end)
        within.extend(rows)
        end = rows[0][1][1]
    return [(name, (start, end)), *within]


def span_of(work, name, names=None):
    """The span of the first one that is called so or, with names, is one with name; None where there is none."""
    for known, span in spans_in(work, 0):
        if known == name or (names is not None and names.are_one(known, name)):
            return span
    return None
