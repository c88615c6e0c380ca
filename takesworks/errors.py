"""The refusals, in three families.

The values of a refusal are the very things that were handed in. The messages
do not show them: they may be of any kind, and some cannot be written out.
"""


class NotSuch(ValueError):
    """What was handed in is not of the kind that is wanted."""


class Lost(LookupError):
    """What was asked for is not there."""


class Taken(RuntimeError):
    """What was to be put stands there already."""


class NoDay(NotSuch):
    """These three make no day."""

    def __init__(self, year, month, day):
        NotSuch.__init__(self, "no such day")
        self.year = year
        self.month = month
        self.day = day


class NoLength(NotSuch):
    """So many seconds are no length."""

    def __init__(self, seconds):
        NotSuch.__init__(self, "no such length")
        self.seconds = seconds


class NoName(NotSuch):
    """The thing is no name."""

    def __init__(self, thing):
        NotSuch.__init__(self, "no name")
        self.thing = thing


class NoEntry(NotSuch):
    """The thing is no entry."""

    def __init__(self, thing):
        NotSuch.__init__(self, "no entry")
        self.thing = thing


class Same(NotSuch):
    """Two were wanted, and both are this thing."""

    def __init__(self, thing):
        NotSuch.__init__(self, "both are the same")
        self.thing = thing


class NoText(NotSuch):
    """A row of a text is not written as what is wanted."""

    def __init__(self, row, wanted):
        NotSuch.__init__(self, "not so written")
        self.row = row
        self.wanted = wanted


class NoLine(NotSuch):
    """The line is none that a desk takes."""

    def __init__(self, line):
        NotSuch.__init__(self, "no such line")
        self.line = line


class NoCustom(NotSuch):
    """What was handed in makes no custom; made with a text."""


class NoDisc(NotSuch):
    """What was handed in makes no disc; made with a text."""


class NoNumber(Lost):
    """Nothing has this number."""

    def __init__(self, number):
        Lost.__init__(self, "nothing has this number")
        self.number = number


class Struck(Lost):
    """What has this number counts no more."""

    def __init__(self, number):
        Lost.__init__(self, "it counts no more")
        self.number = number


class NoKey(Lost):
    """No entry has this key."""

    def __init__(self, key):
        Lost.__init__(self, "no entry has this key")
        self.key = key


class NoPath(Lost):
    """The path leads nowhere."""

    def __init__(self, path):
        Lost.__init__(self, "the path leads nowhere")
        self.path = path


class Twice(Taken):
    """The thing stands there already."""

    def __init__(self, thing):
        Taken.__init__(self, "it is there already")
        self.thing = thing
