"""The custom of a tongue: how its texts are sorted and shown."""

from takesworks.errors import NoCustom
from takesworks.kinds import are_unlike, is_small_text, is_word

MOST_GROUPS = 40
LONGEST_LETTER = 2
MOST_PASSED = 20


def is_group(thing):
    """Whether it is a tuple of one letter or more."""
    if not isinstance(thing, tuple) or len(thing) == 0:
        return False
    return all([is_small_text(text, 1, LONGEST_LETTER) for text in thing])


def are_letters(thing):
    """Whether it is a tuple of groups, with no letter twice in all."""
    if not isinstance(thing, tuple) or not 1 <= len(thing) <= MOST_GROUPS:
        return False
    if not all([is_group(group) for group in thing]):
        return False
    return are_unlike([text for group in thing for text in group])


def are_passed(thing):
    """Whether it is a tuple of unlike words, not too many."""
    if not isinstance(thing, tuple) or len(thing) > MOST_PASSED:
        return False
    return all([is_word(word) for word in thing]) and are_unlike(thing)


def letter_at(numbers, text, at):
    """The letter among these that stands at this place, the longer one first; None where none does."""
    for many in (LONGEST_LETTER, 1):
        letter = text[at:at + many]
        if letter in numbers:
            return letter
    return None


class Custom:
    """Groups of letters, first words that are passed, and whether these are shown behind a comma."""

    def __init__(self, letters, passed=None, comma=True):
        words = () if passed is None else passed
        if not are_letters(letters):
            raise NoCustom("letters are 1 to 40 tuples of unlike texts of one or two letters a to z")
        if not are_passed(words):
            raise NoCustom("passed is a tuple of at most 20 unlike words")
        if not isinstance(comma, bool):
            raise NoCustom("comma is True or False")
        self.letters = letters
        self.passed = words
        self.comma = comma
        self.numbers = {text: number for number, group in enumerate(letters) for text in group}

    def __eq__(self, other):
        return (isinstance(other, Custom) and self.letters == other.letters
                and self.passed == other.passed and self.comma == other.comma)

    def __repr__(self):
        return f"Custom({len(self.letters)})"

    def letters_in(self, text):
        """The tuple of the numbers of the groups whose letters the text has."""
        small = text.lower()
        found = []
        at = 0
        while at < len(small):
            letter = letter_at(self.numbers, small, at)
            if letter is None:
                at += 1
            else:
                found.append(self.numbers[letter])
                at += len(letter)
        return tuple(found)

    def passes(self, word):
        return word.lower() in self.passed

    def bare(self, text):
        """The text without its first word and blank, where that word is passed."""
        word, blank, rest = text.partition(" ")
        return rest if rest != "" and self.passes(word) else text

    def rank(self, text):
        """What texts are sorted by."""
        return (self.letters_in(self.bare(text)), self.letters_in(text), text)

    def in_order(self, texts, down=False):
        """The list of the texts, rising by rank; where down, turned about."""
        rising = sorted(texts, key=self.rank)
        return rising[::-1] if down else rising

    def shown(self, text):
        """The text, a first word that is passed behind a comma."""
        rest = self.bare(text)
        if not self.comma or rest == text:
            return text
        word = text.partition(" ")[0]
        return f"{rest}, {word}"

    def read(self, text):
        """The text that this custom shows so."""
        rest, between, word = text.rpartition(", ")
        if self.comma and rest != "" and self.passes(word):
            return f"{word} {rest}"
        return text
