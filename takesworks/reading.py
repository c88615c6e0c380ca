"""How what is written is read: days, lengths, names, entries, discs, works, listings."""

from takesworks.days import Day, makes_day
from takesworks.discs import Disc, are_rows
from takesworks.entries import FIELDS, is_entry, is_key
from takesworks.errors import NoText
from takesworks.kinds import is_text_of, is_within, is_word
from takesworks.lengths import MOST_SECONDS, Length
from takesworks.listings import Listing
from takesworks.names import is_name
from takesworks.showing import FIELD_WORDS, INDENT, show_entry
from takesworks.works import DEEPEST

FIGURES = "0123456789"
MOST_FIGURES = 30
DAY_PARTS = 3
YEAR_FIGURES = 4


def are_figures(text, least, most):
    """Whether the text is of so many figures, and of nothing else."""
    return is_text_of(text, FIGURES, least, most)


def number_in(text):
    """The whole number that is so written; None where none is."""
    if not are_figures(text, 1, MOST_FIGURES) or (text[0] == "0" and text != "0"):
        return None
    return int(text)


def day_in(text):
    """The Day that is so written; None where none is."""
    parts = text.split("-")
    if len(parts) > DAY_PARTS or not all([are_figures(part, 1, YEAR_FIGURES) for part in parts]):
        return None
    year, month, day = [int(part) for part in parts] + [None] * (DAY_PARTS - len(parts))
    # Too many or too few figures show where it is written again.
    return Day(year, month, day) if makes_day(year, month, day) and str(Day(year, month, day)) == text else None


def length_in(text):
    """The Length that is so written; None where none is."""
    minutes, colon, seconds = text.partition(":")
    whole = number_in(minutes)
    if whole is None or not are_figures(seconds, 2, 2):
        return None
    total = whole * 60 + int(seconds)
    # More seconds than a minute has show where it is written again.
    return Length(total) if is_within(total, 0, MOST_SECONDS) and str(Length(total)) == text else None


def name_in(text):
    """The name that is so written; None where none is."""
    tongue, colon, rest = text.partition(":")
    return (tongue, rest) if is_name((tongue, rest)) else None


def key_in(text):
    """The key that is so written; None where none is."""
    house, blank, figures = text.partition(" ")
    key = (house, number_in(figures))
    return key if is_key(key) else None


def all_in(reader, text):
    """The tuple of all that is so written, with commas between; None where one is not."""
    things = [reader(piece) for piece in text.split(", ")]
    return None if None in things else tuple(things)


def keys_in(text):
    """The tuple of one key or more that are so written; None where they are not."""
    return all_in(key_in, text)


def names_in(text):
    """The tuple of one name or more that are so written; None where they are not."""
    return all_in(name_in, text)


def code_in(text):
    return text


FIELD_READERS = {"code": code_in, "title": name_in, "players": names_in, "day": day_in, "length": length_in}


def told_in(field, pieces):
    """What the first of the pieces with the word of this field tells; None where none does."""
    start = FIELD_WORDS[field] + " "
    reader = FIELD_READERS[field]
    for piece in pieces:
        if piece.startswith(start):
            return reader(piece.removeprefix(start))
    return None


def entry_in(text):
    """The entry that is so written; None where none is."""
    head, *pieces = text.split(" | ")
    key = key_in(head)
    if key is None:
        return None
    entry = key + tuple([told_in(field, pieces) for field in FIELDS])
    # A piece that tells nothing, comes twice or out of order shows where the entry is written again.
    return entry if is_entry(entry) and show_entry(entry) == text else None


def disc_in(text):
    """The Disc that is so written; None where none is."""
    label, between, rest = text.removeprefix("disc ").partition(": ")
    rows = keys_in(rest)
    # Without the word disc ahead it shows where it is written again.
    if not is_word(label) or not are_rows(rows) or str(Disc(label, rows)) != text:
        return None
    return Disc(label, rows)


def work_row_in(text):
    """How many works the part stands in and its name, as a row of a work is written; None where it is not."""
    written = text.lstrip(" ")
    deep, odd = divmod(len(text) - len(written), len(INDENT))
    name = name_in(written)
    return None if odd != 0 or name is None else (deep, name)


def may_stand(rows, row):
    """Whether a row of a work may stand behind these."""
    deep, name = row
    if len(rows) == 0:
        return deep == 0
    return is_within(deep, 1, min(rows[-1][0] + 1, DEEPEST - 1)) and name not in [known for above, known in rows]


def work_of(rows):
    """The work that has these rows."""
    # From the last row on, so that all parts of a work are made ahead of it.
    waiting = [[] for deep in range(DEEPEST + 1)]
    for deep, name in rows[::-1]:
        waiting[deep].append((name, tuple(waiting[deep + 1][::-1])))
        waiting[deep + 1] = []
    return waiting[0][0]


def so_written(reader, text, wanted, row=0):
    """What the reader finds in the text, of any kind; refused where it finds nothing."""
    thing = reader(text) if isinstance(text, str) else None
    if thing is None:
        raise NoText(row, wanted)
    return thing


def read_day(text):
    return so_written(day_in, text, "day")


def read_length(text):
    return so_written(length_in, text, "length")


def read_name(text):
    return so_written(name_in, text, "name")


def read_entry(text):
    return so_written(entry_in, text, "entry")


def read_disc(text):
    return so_written(disc_in, text, "disc")


def read_work(text):
    """The work that has this text, of any kind."""
    if not isinstance(text, str):
        raise NoText(0, "work")
    rows = []
    for number, line in enumerate(text.split("\n")):
        row = so_written(work_row_in, line, "work", number)
        if not may_stand(rows, row):
            raise NoText(number, "work")
        rows.append(row)
    return work_of(rows)


def read_listing(text):
    """The Listing of all entries whose rows the text, of any kind, has."""
    if not isinstance(text, str):
        raise NoText(0, "entry")
    lines = [] if text == "" else text.split("\n")
    return Listing(tuple([so_written(entry_in, line, "entry", number) for number, line in enumerate(lines)]))
