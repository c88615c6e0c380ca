"""Point 4: Day, earliest, latest, may_be, by_day."""

import calendar
import itertools
import unittest

from takesworks.days import Day, by_day, earliest, latest, may_be
from takesworks.errors import NoDay
from takesworks.lengths import Length
from things import Stranger, beyond, nested, strangers, texts, truths, tuples

NO_PART = [*strangers(), *truths(), *texts(), *tuples(), *beyond(), 0]


class Refusals(unittest.TestCase):
    def refused(self, year, month, day):
        with self.assertRaises(NoDay) as caught:
            Day(year, month, day)
        self.assertIs(caught.exception.year, year)
        self.assertIs(caught.exception.month, month)
        self.assertIs(caught.exception.day, day)

    def test_bounds_of_the_year(self):
        self.assertEqual(Day(1).year, 1)
        self.assertEqual(Day(9999, 12, 31).year, 9999)
        for year in (0, 10000, -1, -1931):
            self.refused(year, None, None)
            self.refused(year, 4, 7)

    def test_bounds_of_the_month(self):
        for month in range(1, 13):
            self.assertEqual(Day(1931, month).month, month)
        for month in (0, 13, -1, -12):
            self.refused(1931, month, None)
            self.refused(1931, month, 1)

    def test_bounds_of_the_day(self):
        for year in (1, 1900, 1931, 1932, 2000, 9999):
            for month in range(1, 13):
                many = calendar.monthrange(year, month)[1]
                for day in range(1, many + 1):
                    self.assertEqual(Day(year, month, day).day, day)
                for day in (0, -1, many + 1):
                    self.refused(year, month, day)

    def test_february(self):
        for year in (4, 1904, 1932, 2000, 1600, 400, 9996):
            self.assertEqual(Day(year, 2, 29).day, 29)
            self.refused(year, 2, 30)
        for year in (1, 1931, 1933, 1934, 1900, 1800, 2100, 100, 200, 300):
            self.assertEqual(Day(year, 2, 28).day, 28)
            self.refused(year, 2, 29)

    def test_february_of_every_year(self):
        for year in range(1, 10000):
            self.assertEqual(latest(Day(year, 2)).day, calendar.monthrange(year, 2)[1])

    def test_a_day_without_a_month(self):
        for day in (1, 7, 31, 0, 32):
            self.refused(1931, None, day)

    def test_anything_as_a_year(self):
        for thing in [None, *NO_PART]:
            self.refused(thing, None, None)
            self.refused(thing, 4, None)
            self.refused(thing, 4, 7)

    def test_anything_as_a_month(self):
        for thing in NO_PART:
            self.refused(1931, thing, None)
            self.refused(1931, thing, 7)

    def test_anything_as_a_day(self):
        for thing in NO_PART:
            self.refused(1931, 4, thing)
            self.refused(1931, None, thing)

    def test_anything_as_all_three(self):
        for thing in NO_PART:
            self.refused(thing, thing, thing)

    def test_a_refusal_tells_parts_left_out_as_none(self):
        with self.assertRaises(NoDay) as caught:
            Day(0)
        self.assertEqual((caught.exception.year, caught.exception.month, caught.exception.day), (0, None, None))

    def test_what_is_refused_is_unchanged(self):
        thing = [1931, {"a": [4]}, nested(30, lambda inner: [inner])]
        before = repr(thing)
        self.refused(thing, thing, thing)
        self.assertEqual(repr(thing), before)


class Values(unittest.TestCase):
    def test_by_place(self):
        day = Day(1931, 4, 7)
        self.assertEqual((day.year, day.month, day.day), (1931, 4, 7))

    def test_by_name_in_any_order(self):
        for names in itertools.permutations([("year", 1931), ("month", 4), ("day", 7)]):
            day = Day(**dict(names))
            self.assertEqual((day.year, day.month, day.day), (1931, 4, 7))
        day = Day(1931, day=7, month=4)
        self.assertEqual((day.year, day.month, day.day), (1931, 4, 7))

    def test_left_out_or_none(self):
        for day in (Day(1931), Day(1931, None), Day(1931, None, None), Day(year=1931, day=None)):
            self.assertIsNone(day.month)
            self.assertIsNone(day.day)
        for day in (Day(1931, 4), Day(1931, 4, None), Day(month=4, year=1931)):
            self.assertEqual(day.month, 4)
            self.assertIsNone(day.day)


class Equality(unittest.TestCase):
    def test_with_a_day_of_the_same_three(self):
        for parts in ((1931,), (1931, 4), (1931, 4, 7)):
            self.assertIs(Day(*parts) == Day(*parts), True)
            self.assertIs(Day(*parts) != Day(*parts), False)

    def test_with_another_day(self):
        days = [Day(1931), Day(1932), Day(1931, 1), Day(1931, 4), Day(1931, 1, 1), Day(1931, 4, 7), Day(1931, 4, 8),
                Day(1931, 5, 7), Day(1932, 4, 7)]
        for one, other in itertools.permutations(days, 2):
            self.assertIs(one == other, False)
            self.assertIs(one != other, True)

    def test_with_nothing_else(self):
        full, year = Day(1931, 4, 7), Day(1931)
        for thing in [(1931, 4, 7), [1931, 4, 7], (1931, None, None), 1931, "1931", "1931-04-07", "Day(1931)", None,
                      True, Length(1931), Stranger(), Day, {"year": 1931, "month": None, "day": None}]:
            self.assertIs(full == thing, False)
            self.assertIs(year == thing, False)


class Written(unittest.TestCase):
    def test_str(self):
        self.assertEqual(str(Day(1931, 4, 7)), "1931-04-07")
        self.assertEqual(str(Day(1931, 4)), "1931-04")
        self.assertEqual(str(Day(1931)), "1931")

    def test_str_has_all_its_figures(self):
        self.assertEqual(str(Day(7)), "0007")
        self.assertEqual(str(Day(31, 12)), "0031-12")
        self.assertEqual(str(Day(987, 1, 10)), "0987-01-10")
        self.assertEqual(str(Day(9999, 12, 31)), "9999-12-31")

    def test_repr(self):
        self.assertEqual(repr(Day(1931, 4, 7)), "Day(1931, 4, 7)")
        self.assertEqual(repr(Day(1931, 4)), "Day(1931, 4)")
        self.assertEqual(repr(Day(1931)), "Day(1931)")
        self.assertEqual(repr(Day(7, 12, 31)), "Day(7, 12, 31)")


class Bounds(unittest.TestCase):
    def test_of_a_year(self):
        self.assertEqual(earliest(Day(1931)), Day(1931, 1, 1))
        self.assertEqual(latest(Day(1931)), Day(1931, 12, 31))

    def test_of_a_month(self):
        for year in (1900, 1931, 1932, 2000):
            for month in range(1, 13):
                self.assertEqual(earliest(Day(year, month)), Day(year, month, 1))
                self.assertEqual(latest(Day(year, month)), Day(year, month, calendar.monthrange(year, month)[1]))

    def test_of_a_full_day(self):
        for day in (Day(1931, 4, 7), Day(1932, 2, 29), Day(1, 1, 1), Day(9999, 12, 31)):
            self.assertEqual(earliest(day), day)
            self.assertEqual(latest(day), day)

    def test_by_name(self):
        self.assertEqual(earliest(day=Day(1931)), Day(1931, 1, 1))
        self.assertEqual(latest(day=Day(1931)), Day(1931, 12, 31))

    def test_the_day_is_unchanged(self):
        day = Day(1931)
        earliest(day)
        latest(day)
        self.assertEqual(repr(day), "Day(1931)")


class MayBe(unittest.TestCase):
    def look(self, one, other, wanted):
        self.assertIs(may_be(one, other), wanted)
        self.assertIs(may_be(other, one), wanted)
        self.assertIs(may_be(other=one, one=other), wanted)

    def test_alike_in_what_both_tell(self):
        for one in (Day(1931), Day(1931, 4), Day(1931, 4, 7)):
            for other in (Day(1931), Day(1931, 4), Day(1931, 4, 7)):
                self.look(one, other, True)

    def test_unlike_years(self):
        for one in (Day(1931), Day(1931, 4), Day(1931, 4, 7)):
            for other in (Day(1932), Day(1932, 4), Day(1932, 4, 7)):
                self.look(one, other, False)

    def test_unlike_months(self):
        for one in (Day(1931, 4), Day(1931, 4, 7)):
            for other in (Day(1931, 5), Day(1931, 5, 7)):
                self.look(one, other, False)

    def test_unlike_days(self):
        self.look(Day(1931, 4, 7), Day(1931, 4, 8), False)


class ByDay(unittest.TestCase):
    ORDER = [Day(1930, 12, 31), Day(1931, 1, 1), Day(1931, 1), Day(1931), Day(1931, 1, 2), Day(1931, 2, 1),
             Day(1931, 2), Day(1931, 12), Day(1932)]

    def test_every_order_comes_out_the_same(self):
        days = self.ORDER[:7]
        for turned in itertools.permutations(days):
            self.assertEqual(by_day(turned), days)

    def test_of_a_list_and_of_a_tuple(self):
        turned = self.ORDER[::2] + self.ORDER[1::2]
        for days in (turned, tuple(turned)):
            told = by_day(days)
            self.assertIsInstance(told, list)
            self.assertEqual(told, self.ORDER)

    def test_down_by_place_and_by_name(self):
        turned = self.ORDER[::2] + self.ORDER[1::2]
        for told in (by_day(turned, True), by_day(turned, down=True), by_day(down=True, days=tuple(turned))):
            self.assertIsInstance(told, list)
            self.assertEqual(told, self.ORDER[::-1])
        self.assertEqual(by_day(turned, False), self.ORDER)
        self.assertEqual(by_day(turned, down=False), self.ORDER)

    def test_empty_ones(self):
        for days in ([], ()):
            self.assertEqual(by_day(days), [])
            self.assertEqual(by_day(days, down=True), [])

    def test_alike_ones_stay_as_they_stood(self):
        alike = [Day(1931, 4) for _ in range(4)]
        told = by_day([alike[0], Day(1932), alike[1], Day(1930), alike[2], alike[3]])
        self.assertEqual(told, [Day(1930), *alike, Day(1932)])
        for one, other in zip(told[1:5], alike):
            self.assertIs(one, other)

    def test_down_turns_the_whole_list_about(self):
        days = [Day(1931, 4), Day(1932), Day(1931, 4)]
        told = by_day(days, down=True)
        self.assertIs(told[0], days[1])
        self.assertIs(told[1], days[2])
        self.assertIs(told[2], days[0])

    def test_the_list_is_new(self):
        for down in (False, True):
            days = [Day(1931), Day(1932)]
            told = by_day(days, down)
            self.assertIsNot(told, days)
            told.clear()
            self.assertEqual(days, [Day(1931), Day(1932)])

    def test_what_is_handed_in_is_unchanged(self):
        days = [Day(1932), Day(1931), Day(1933, 2)]
        for down in (False, True):
            by_day(days, down)
            self.assertEqual(repr(days), "[Day(1932), Day(1931), Day(1933, 2)]")


if __name__ == "__main__":
    unittest.main()
