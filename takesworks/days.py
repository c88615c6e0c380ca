"""Days, of which the month or the day of the month may be unknown."""

from takesworks.errors import NoDay
from takesworks.kinds import is_within

LAST_YEAR = 9999
MONTHS = 12
FEBRUARY = 2
MONTH_DAYS = (31, 28, 31, 30, 31, 30, 31, 31, 30, 31, 30, 31)


def is_leap(year):
    return year % 4 == 0 and (year % 100 != 0 or year % 400 == 0)


def days_in(year, month):
    """How many days this month of this year has."""
    if month == FEBRUARY and is_leap(year):
        return 29
    return MONTH_DAYS[month - 1]


def makes_day(year, month, day):
    """Whether the three, of any kind, are the parts of a Day."""
    if not is_within(year, 1, LAST_YEAR):
        return False
    if month is None:
        return day is None
    if not is_within(month, 1, MONTHS):
        return False
    return day is None or is_within(day, 1, days_in(year, month))


class Day:
    """A year, a month of a year, or a full day."""

    def __init__(self, year, month=None, day=None):
        if not makes_day(year, month, day):
            raise NoDay(year, month, day)
        self.year = year
        self.month = month
        self.day = day

    def __eq__(self, other):
        return (isinstance(other, Day) and self.year == other.year
                and self.month == other.month and self.day == other.day)

    def __str__(self):
        if self.month is None:
            return f"{self.year:04d}"
        if self.day is None:
            return f"{self.year:04d}-{self.month:02d}"
        return f"{self.year:04d}-{self.month:02d}-{self.day:02d}"

    def __repr__(self):
        if self.month is None:
            return f"Day({self.year})"
        if self.day is None:
            return f"Day({self.year}, {self.month})"
        return f"Day({self.year}, {self.month}, {self.day})"


def earliest(day):
    """The first full Day that it may be."""
    month = 1 if day.month is None else day.month
    return Day(day.year, month, 1 if day.day is None else day.day)


def latest(day):
    """The last full Day that it may be."""
    month = MONTHS if day.month is None else day.month
    return Day(day.year, month, days_in(day.year, month) if day.day is None else day.day)


def is_unknown_or_alike(one, other):
    """Whether two parts are alike, or one of them is not told."""
    return one is None or other is None or one == other


def may_be(one, other):
    """Whether all parts that both tell are alike."""
    return (one.year == other.year and is_unknown_or_alike(one.month, other.month)
            and is_unknown_or_alike(one.day, other.day))


def parts_of(day):
    return (day.year, day.month, day.day)


def place_of(day):
    """What days are sorted by."""
    return (parts_of(earliest(day)), parts_of(latest(day)))


def by_day(days, down=False):
    """The list of the days, rising; where down, turned about."""
    rising = sorted(days, key=place_of)
    return rising[::-1] if down else rising
