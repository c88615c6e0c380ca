"""Point 5: Length, together, apart."""

import unittest

from takesworks.days import Day
from takesworks.errors import NoLength
from takesworks.lengths import Length, apart, together
from things import Stranger, beyond, nested, strangers, texts, truths, tuples

NO_SECONDS = [None, *strangers(), *truths(), *texts(), *tuples(), *beyond(), 360000]


class Made(unittest.TestCase):
    def refused(self, seconds):
        with self.assertRaises(NoLength) as caught:
            Length(seconds)
        self.assertIs(caught.exception.seconds, seconds)

    def test_bounds(self):
        for seconds in (0, 1, 187, 359998, 359999):
            self.assertEqual(Length(seconds).seconds, seconds)
        self.refused(-1)
        self.refused(360000)

    def test_by_name(self):
        self.assertEqual(Length(seconds=187).seconds, 187)
        with self.assertRaises(NoLength) as caught:
            Length(seconds=[187])
        self.assertEqual(caught.exception.seconds, [187])

    def test_anything_else_is_refused(self):
        for thing in NO_SECONDS:
            self.refused(thing)

    def test_a_length_is_no_number(self):
        self.refused(Length(3))

    def test_what_is_refused_is_unchanged(self):
        thing = [187, {"a": [4]}, nested(30, lambda inner: [inner])]
        before = repr(thing)
        self.refused(thing)
        self.assertEqual(repr(thing), before)


class Equality(unittest.TestCase):
    def test_with_a_length_of_as_many(self):
        self.assertIs(Length(187) == Length(187), True)
        self.assertIs(Length(187) != Length(187), False)
        self.assertIs(Length(187) == Length(188), False)
        self.assertIs(Length(187) != Length(188), True)
        self.assertIs(Length(0) == Length(60), False)

    def test_with_nothing_else(self):
        for one in (Length(0), Length(1), Length(187)):
            for thing in [0, 1, 187, "187", "3:07", "Length(187)", None, True, False, (187,), [187], {"seconds": 187},
                          Day(187), Stranger(), Length]:
                self.assertIs(one == thing, False)
                self.assertIs(one != thing, True)


class Written(unittest.TestCase):
    def test_str(self):
        for seconds, text in ((187, "3:07"), (0, "0:00"), (9, "0:09"), (59, "0:59"), (60, "1:00"), (600, "10:00"),
                              (3600, "60:00"), (6001, "100:01"), (359999, "5999:59")):
            self.assertEqual(str(Length(seconds)), text)

    def test_repr(self):
        for seconds in (0, 187, 359999):
            self.assertEqual(repr(Length(seconds)), f"Length({seconds})")


class Together(unittest.TestCase):
    def refused(self, wanted, lengths, start):
        with self.assertRaises(NoLength) as caught:
            together(lengths, start)
        self.assertEqual(caught.exception.seconds, wanted)

    def test_of_a_list_and_of_a_tuple(self):
        for lengths in ([Length(187), Length(0), Length(60)], (Length(187), Length(0), Length(60))):
            self.assertEqual(together(lengths), Length(247))

    def test_alike_ones_all_count(self):
        self.assertEqual(together([Length(60), Length(60), Length(60)]), Length(180))

    def test_of_empty_ones(self):
        for lengths in ([], ()):
            self.assertEqual(together(lengths), Length(0))
            self.assertEqual(together(lengths, 5), Length(5))

    def test_start_by_place_and_by_name(self):
        self.assertEqual(together([Length(10)], 0), Length(10))
        self.assertEqual(together([Length(10)], 5), Length(15))
        self.assertEqual(together([Length(10)], start=5), Length(15))
        self.assertEqual(together(start=5, lengths=(Length(10),)), Length(15))

    def test_up_to_the_bound_and_one_more(self):
        self.assertEqual(together([Length(359998), Length(1)]), Length(359999))
        self.assertEqual(together([Length(359998)], 1), Length(359999))
        self.assertEqual(together([], 359999), Length(359999))
        self.refused(360000, [Length(359999), Length(1)], 0)
        self.refused(360000, [Length(359999)], 1)
        self.refused(360000, (), 360000)
        self.refused(719998, (Length(359999), Length(359999)), 0)

    def test_start_is_a_whole_number_from_0(self):
        for start in (-1, -10, True, False, None, "1", [1], (1,)):
            self.refused(start, [Length(20)], start)
        self.refused(400001, [Length(1)], 400000)

    def test_what_is_handed_in_is_unchanged(self):
        lengths = [Length(2), Length(1)]
        together(lengths, 3)
        self.assertEqual(repr(lengths), "[Length(2), Length(1)]")

    def test_what_is_told_is_a_new_length(self):
        one = Length(2)
        self.assertIsInstance(together([one]), Length)
        self.assertIsNot(together([one]), one)


class Apart(unittest.TestCase):
    def test_either_way_about(self):
        for one, other, wanted in ((187, 180, 7), (0, 359999, 359999), (60, 60, 0)):
            for told in (apart(Length(one), Length(other)), apart(Length(other), Length(one)),
                         apart(other=Length(one), one=Length(other))):
                self.assertEqual(told, wanted)
                self.assertIs(type(told), int)


if __name__ == "__main__":
    unittest.main()
