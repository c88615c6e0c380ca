"""Point 6, and (h) of point 3 where it speaks of customs."""

import itertools
import unittest

from takesworks.customs import Custom
from takesworks.errors import NoCustom
from things import Stranger, beyond, nested, strangers, texts, truths, tuples

SMALL = "abcdefghijklmnopqrstuvwxyz"
PAIRS = tuple(one + other for one in SMALL for other in SMALL)
LATIN = tuple((sign,) for sign in SMALL)
# C, CH, D, .. L, LL, .. as an older Spanish custom has it, with two articles passed.
SPANISH = Custom((("a",), ("b",), ("c",), ("ch",), ("d",), ("e",), ("l",), ("ll",), ("o",), ("s",), ("u", "v")),
                 ("el", "los"))
GERMAN = Custom((("a", "ae"), ("d",), ("e",), ("h",), ("i",), ("o", "oe"), ("r",), ("s", "ss")),
                ("der", "die", "das"))
PLAIN = Custom(GERMAN.letters, ("der", "die", "das"), False)
NO_LETTER = [None, 0, 1, *strangers(), *truths(), *tuples(), *beyond(), *[text for text in texts() if text != "a"]]
NO_GROUP = [None, 0, 1, *strangers(), *truths(), *texts(), *beyond(), *[one for one in tuples() if one != ("a",)]]


def words(many):
    return tuple("w" + SMALL[number] for number in range(many))


class Made(unittest.TestCase):
    def refused(self, *things, **named):
        with self.assertRaises(NoCustom) as caught:
            Custom(*things, **named)
        self.assertIsInstance(str(caught.exception), str)

    def test_1_and_40_groups(self):
        self.assertEqual(repr(Custom((("a",),))), "Custom(1)")
        self.assertEqual(repr(Custom(tuple((pair,) for pair in PAIRS[:40]))), "Custom(40)")

    def test_0_and_41_groups(self):
        self.refused(())
        self.refused(tuple((pair,) for pair in PAIRS[:41]))

    def test_a_group_has_one_text_or_more(self):
        self.assertEqual(repr(Custom((PAIRS, tuple(SMALL)))), "Custom(2)")
        self.refused(((),))
        self.refused((("a",), ()))

    def test_none_to_20_words_passed(self):
        for many in range(21):
            self.assertEqual(Custom(LATIN, words(many)).bare("Wa x"), "x" if many > 0 else "Wa x")
        self.refused(LATIN, words(21))

    def test_words_of_1_to_8_letters(self):
        for word in ("a", "z", "abcdefgh"):
            self.assertEqual(Custom(LATIN, (word,)).bare(word + " x"), "x")
        for word in ("", "abcdefghi", "A", "Der", "a b", " a", "a ", "a1", "l'", "a-b", "a\n", "\xe9", "\xdf"):
            self.refused(LATIN, (word,))
            self.refused(LATIN, ("der", word))

    def test_texts_of_one_or_two_letters(self):
        for text in ("a", "z", "aa", "zz", "az"):
            self.assertEqual(Custom(((text,),)).letters_in(text), (0,))
        for text in ("", "abc", "A", "aB", "a ", " a", " ", "1", "a1", "-", "a-", "\n", "\xe9", "\xdf", "a\n"):
            self.refused(((text,),))
            self.refused((("a",), ("b", text)))

    def test_a_text_twice(self):
        self.refused((("a", "a"),))
        self.refused((("a",), ("a",)))
        self.refused((("a", "ch"), ("b", "ch")))
        self.assertEqual(repr(Custom((("a", "aa"), ("b",)))), "Custom(2)")

    def test_a_word_twice(self):
        self.refused(LATIN, ("der", "der"))
        self.refused(LATIN, ("der", "die", "der"))

    def test_a_word_may_be_a_letter_too(self):
        self.assertEqual(Custom((("a",),), ("a",)).bare("A b"), "b")

    def test_passed_left_out_none_and_empty_are_one(self):
        made = [Custom(LATIN), Custom(LATIN, None), Custom(LATIN, ()), Custom(LATIN, passed=None), Custom(letters=LATIN)]
        for one, other in itertools.product(made, made):
            self.assertIs(one == other, True)
        self.assertEqual(made[0].bare("der x"), "der x")

    def test_comma_left_out_is_true(self):
        self.assertEqual(Custom(LATIN, ("der",)), Custom(LATIN, ("der",), True))
        self.assertEqual(Custom(LATIN, ("der",)), Custom(comma=True, passed=("der",), letters=LATIN))

    def test_comma_that_is_no_truth(self):
        for thing in [None, 0, 1, *strangers(), *texts(), *tuples(), *beyond()]:
            self.refused(LATIN, (), thing)
            self.refused(LATIN, comma=thing)

    def test_anything_as_letters(self):
        for thing in [None, 0, 1, *strangers(), *truths(), *texts(), *tuples(), *beyond()]:
            self.refused(thing)

    def test_anything_as_a_group(self):
        for thing in NO_GROUP:
            self.refused((thing,))
            self.refused((("b",), thing))

    def test_anything_as_a_text_of_a_group(self):
        for thing in NO_LETTER:
            self.refused(((thing,),))
            self.refused((("b", thing),))

    def test_anything_as_passed(self):
        for thing in [thing for thing in NO_GROUP if repr(thing) not in ("()", "None")]:
            self.refused(LATIN, thing)
            self.refused(LATIN, passed=thing)

    def test_anything_as_a_word(self):
        for thing in NO_LETTER:
            self.refused(LATIN, (thing,))
            self.refused(LATIN, ("der", thing))

    def test_lists_in_the_place_of_tuples(self):
        self.refused([("a",)])
        self.refused((["a"],))
        self.refused((("a",), ["b"]))
        self.refused(LATIN, ["der"])
        self.refused(LATIN, [])
        self.refused({("a",): 1})

    def test_what_is_refused_is_unchanged(self):
        thing = [["a"], {"a": [4]}, nested(30, lambda inner: [inner])]
        before = repr(thing)
        self.refused(thing)
        self.refused((thing,), thing, thing)
        self.assertEqual(repr(thing), before)

    def test_repr(self):
        self.assertEqual(repr(Custom((("a",), ("b", "c"), ("d",)), ("der",), False)), "Custom(3)")


class Equality(unittest.TestCase):
    UNLIKE = [
        ((("a", "b"), ("c",)), ("der", "die"), True), ((("b", "a"), ("c",)), ("der", "die"), True),
        ((("c",), ("a", "b")), ("der", "die"), True), ((("a",), ("b", "c")), ("der", "die"), True),
        ((("a", "b"),), ("der", "die"), True), ((("a", "b"), ("c",)), ("die", "der"), True),
        ((("a", "b"), ("c",)), ("der",), True), ((("a", "b"), ("c",)), (), True),
        ((("a", "b"), ("c",)), ("der", "die"), False),
    ]

    def test_with_a_custom_of_the_same_three(self):
        for one in self.UNLIKE:
            for other in self.UNLIKE:
                self.assertIs(Custom(*one) == Custom(*other), one == other)
                self.assertIs(Custom(*one) != Custom(*other), one != other)

    def test_with_nothing_else(self):
        one = self.UNLIKE[0]
        for thing in [one, one[0], list(one), "Custom(2)", 2, None, True, Stranger(), Custom, {}]:
            self.assertIs(Custom(*one) == thing, False)


class LettersIn(unittest.TestCase):
    def test_a_letter_of_two_signs_ahead_of_that_of_one(self):
        self.assertEqual(SPANISH.letters_in("chal"), (3, 0, 6))
        self.assertEqual(SPANISH.letters_in("calle"), (2, 0, 7, 5))
        self.assertEqual(SPANISH.letters_in("hc"), (2,))

    def test_read_from_the_left(self):
        self.assertEqual(SPANISH.letters_in("lll"), (7, 6))
        self.assertEqual(SPANISH.letters_in("llll"), (7, 7))
        custom = Custom((("ab",), ("bc",), ("c",)))
        self.assertEqual(custom.letters_in("abc"), (0, 2))
        self.assertEqual(custom.letters_in("bcab"), (1, 0))
        self.assertEqual(custom.letters_in("babc"), (0, 2))

    def test_the_last_sign(self):
        self.assertEqual(SPANISH.letters_in("l"), (6,))
        self.assertEqual(SPANISH.letters_in("ac"), (0, 2))
        self.assertEqual(Custom((("ab",),)).letters_in("aba"), (0,))

    def test_groups_of_several(self):
        self.assertEqual(SPANISH.letters_in("uva"), (10, 10, 0))
        self.assertEqual(GERMAN.letters_in("aeoess"), (0, 5, 7))

    def test_capitals_as_small_ones(self):
        for text in ("CHAL", "Chal", "cHAL", "ChaL"):
            self.assertEqual(SPANISH.letters_in(text), (3, 0, 6))

    def test_signs_passed_by(self):
        self.assertEqual(SPANISH.letters_in("c.h-a x1\n~l"), (2, 0, 6))
        self.assertEqual(SPANISH.letters_in("l l"), (6, 6))
        self.assertEqual(SPANISH.letters_in("xyz 123"), ())
        self.assertEqual(SPANISH.letters_in(""), ())

    def test_a_tuple_by_name(self):
        told = SPANISH.letters_in(text="ab")
        self.assertIsInstance(told, tuple)
        self.assertEqual(told, (0, 1))


class Bare(unittest.TestCase):
    def look(self, text, wanted):
        self.assertEqual(GERMAN.bare(text), wanted)
        self.assertEqual(PLAIN.bare(text=text), wanted)

    def test_first_word_passed(self):
        self.look("die Reise", "Reise")
        self.look("der", "der")
        self.look("das a b c", "a b c")
        self.look("Die Die Reise", "Die Reise")

    def test_first_word_not_passed(self):
        self.look("Reise die", "Reise die")
        self.look("dies a", "dies a")
        self.look("di a", "di a")
        self.look("Die-Reise weit", "Die-Reise weit")
        self.look("die, Reise", "die, Reise")

    def test_capitals(self):
        self.look("Die Reise", "Reise")
        self.look("DIE REISE", "REISE")
        self.look("dIe ReIsE", "ReIsE")

    def test_nothing_behind_the_blank(self):
        self.look("die ", "die ")
        self.look("Die ", "Die ")

    def test_two_blanks(self):
        self.look("die  Reise", " Reise")
        self.look("die  ", " ")

    def test_no_blank(self):
        self.look("die", "die")
        self.look("", "")
        self.look("die\nReise", "die\nReise")

    def test_a_blank_first(self):
        self.look(" die Reise", " die Reise")
        self.look(" ", " ")


class Ranked(unittest.TestCase):
    def test_rank(self):
        self.assertEqual(GERMAN.rank("Die Reise"), ((6, 2, 4, 7, 2), (1, 4, 2, 6, 2, 4, 7, 2), "Die Reise"))
        self.assertEqual(GERMAN.rank(text="Reise"), ((6, 2, 4, 7, 2), (6, 2, 4, 7, 2), "Reise"))
        self.assertEqual(GERMAN.rank(""), ((), (), ""))
        self.assertIsInstance(GERMAN.rank("a"), tuple)

    def test_in_order_as_the_letters_stand(self):
        texts_rising = ["a", "c", "co", "cu", "ch", "cha", "d", "l", "lo", "ll", "lla"]
        for turned in (texts_rising, texts_rising[::-1], texts_rising[::2] + texts_rising[1::2]):
            self.assertEqual(SPANISH.in_order(turned), texts_rising)

    def test_in_order_by_bare_then_by_whole_then_by_text(self):
        # Bare first: "Das Ei" stands by "Ei"; then the whole: d, a before d, i; then the text: "D" before "d".
        rising = ["Das Ei", "die Ei", "Ei", "Ei!", "ei", "Die Reise", "Reise"]
        for turned in itertools.permutations(rising):
            self.assertEqual(GERMAN.in_order(turned), rising)

    def test_of_a_list_and_of_a_tuple(self):
        for handed in (["b", "a"], ("b", "a")):
            told = SPANISH.in_order(handed)
            self.assertIsInstance(told, list)
            self.assertEqual(told, ["a", "b"])
        self.assertEqual(SPANISH.in_order([]), [])
        self.assertEqual(SPANISH.in_order((), True), [])

    def test_alike_ones_are_all_told(self):
        self.assertEqual(SPANISH.in_order(["b", "a", "b", "a"]), ["a", "a", "b", "b"])

    def test_down_by_place_and_by_name(self):
        handed = ("ll", "el a", "l", "a")
        for told in (SPANISH.in_order(handed, True), SPANISH.in_order(handed, down=True),
                     SPANISH.in_order(down=True, texts=list(handed))):
            self.assertIsInstance(told, list)
            self.assertEqual(told, ["ll", "l", "el a", "a"])
        self.assertEqual(SPANISH.in_order(handed, False), ["a", "el a", "l", "ll"])

    def test_the_list_is_new_and_the_other_unchanged(self):
        for down in (False, True):
            handed = ["b", "a", "c"]
            told = SPANISH.in_order(handed, down)
            told.clear()
            self.assertEqual(handed, ["b", "a", "c"])
            handed = ["a", "b"]
            self.assertIsNot(SPANISH.in_order(handed, down), handed)

    def test_rising_by_rank_for_texts_of_all_kinds(self):
        told = GERMAN.in_order(list(all_texts(3)))
        ranks = [GERMAN.rank(text) for text in told]
        for one, other in zip(ranks, ranks[1:]):
            self.assertLessEqual(one, other)
        self.assertEqual(sorted(told), sorted(all_texts(3)))


def all_texts(most):
    """Texts of up to so many pieces: words passed and others, blanks, line feeds, signs; no comma."""
    pieces = ("die", "DER", "das", "a", "Ss", " ", "  ", "\n", "'-.~")
    for many in range(most + 1):
        for chosen in itertools.product(pieces, repeat=many):
            yield "".join(chosen)


class Shown(unittest.TestCase):
    def test_with_comma(self):
        for text, wanted in (("Die Reise", "Reise, Die"), ("das a b", "a b, das"), ("DER x", "x, DER"),
                             ("die  Reise", " Reise, die"), ("die  ", " , die"), ("die die", "die, die")):
            self.assertEqual(GERMAN.shown(text), wanted)
            self.assertEqual(GERMAN.read(wanted), text)

    def test_as_it_stands(self):
        for text in ("Reise", "Reise die", "die", "die ", "", " ", " die Reise", "dies a", "die\nReise"):
            self.assertEqual(GERMAN.shown(text), text)
            self.assertEqual(GERMAN.read(text), text)

    def test_without_comma(self):
        for text in ("Die Reise", "das a b", "Reise", "die", "die ", ""):
            self.assertEqual(PLAIN.shown(text), text)
            self.assertEqual(PLAIN.read(text), text)

    def test_what_was_not_turned_is_read_as_it_stands(self):
        self.assertEqual(PLAIN.read("Reise, Die"), "Reise, Die")
        self.assertEqual(GERMAN.read("Reise, lang"), "Reise, lang")

    def test_by_name(self):
        self.assertEqual(GERMAN.shown(text="Die Reise"), "Reise, Die")
        self.assertEqual(GERMAN.read(text="Reise, Die"), "Die Reise")

    def test_what_is_shown_is_read_as_it_was(self):
        for text in all_texts(5):
            self.assertEqual(GERMAN.read(GERMAN.shown(text)), text)
        short = Custom(LATIN, ("a", "ss", "die"))
        for text in all_texts(4):
            self.assertEqual(PLAIN.read(PLAIN.shown(text)), text)
            self.assertEqual(short.read(short.shown(text)), text)

    def test_long_texts_are_read_as_they_were(self):
        for text in ("die " + "ab " * 1998, "die " + " " * 5996, "d" * 6000):
            self.assertEqual(GERMAN.read(GERMAN.shown(text)), text)


if __name__ == "__main__":
    unittest.main()
