"""Things of any kind to hand in."""


def nested(deep, wrap):
    """A thing that is wrapped so many times."""
    thing = 1
    for _ in range(deep):
        thing = wrap(thing)
    return thing


class Stranger:
    """An object of no class of the package, equal to everything."""

    def __eq__(self, other):
        return True


def strangers():
    """Things of many kinds: no whole number, truth, text, tuple or None."""
    return [
        [], [1], [1931, 4, 7], [[("a",)]], {}, {"year": 1931}, {1: [2]}, b"", b"1931", set(), {1},
        object(), Stranger(), nested(30, lambda thing: [thing]), nested(30, lambda thing: {"a": thing}),
    ]


def truths():
    return [True, False]


def texts():
    return ["", "1", "1931", "1931-04-07", "a", "a b", "None", "x" * 6000]


def tuples():
    return [(), (1,), (1931, 4, 7), ("a",), ((),), (None,), nested(30, lambda thing: (thing,)),
            nested(30, lambda thing: ([thing],))]


def anything():
    """Things of every kind."""
    return [None, 0, 1, *strangers(), *truths(), *texts(), *tuples(), *beyond()]


def beyond():
    """Whole numbers that no bound lets in, up to thirty figures."""
    return [-1, -(10 ** 29), 10 ** 29, 10 ** 30 - 1]
