"""A desk: a shelf to which lines are said, and which answers in texts."""

from takesworks.errors import NoLine, NoText
from takesworks.reading import key_in, keys_in, name_in, number_in, read_disc, read_entry, read_name, so_written
from takesworks.shelves import Shelf
from takesworks.showing import show_key, show_keys


def two_in(reader, text):
    """Both things that stand around a sign of equality."""
    one, between, other = text.partition(" = ")
    return (so_written(reader, one, "line"), so_written(reader, other, "line"))


def say_put(desk, rest):
    return str(desk.put(read_entry(rest)))


def say_lay(desk, rest):
    return str(desk.lay(read_disc(rest)))


def say_one(desk, rest):
    name, other = two_in(name_in, rest)
    return str(desk.one(name, other))


def say_same(desk, rest):
    key, other = two_in(key_in, rest)
    return str(desk.same(key, other))


def say_undo(desk, rest):
    classes, takes = desk.undo(so_written(number_in, rest, "line"))
    return f"{len(classes)} {len(takes)}"


def say_why(desk, rest):
    one, other = two_in(key_in, rest)
    row = desk.joined(one, other)
    return "no" if row is None else show_keys(row)


def say_rows(desk, rest):
    rows = desk.rows_of(read_name(rest))
    # A row is written as a key is: a word and a number.
    return "-" if len(rows) == 0 else show_keys(rows)


def say_played(desk, rest):
    days = [day for day, take, others in desk.played(read_name(rest))]
    return "-" if len(days) == 0 else ", ".join(["-" if day is None else str(day) for day in days])


def say_for(desk, rest):
    answer, told = desk.discs_for(so_written(keys_in, rest, "line"))
    return f"lacks {show_key(told)}" if answer == "lacks" else " ".join(["fewest", *told])


def say_takes(desk):
    return str(len(desk.takes()))


def say_clashes(desk):
    return str(len(desk.clashes()))


# What is said with a word and a rest, and what is said with a word alone.
WITH_REST = {"put": say_put, "lay": say_lay, "one": say_one, "same": say_same, "undo": say_undo, "why": say_why,
             "rows": say_rows, "played": say_played, "for": say_for}
ALONE = {"takes": say_takes, "clashes": say_clashes}


class Desk(Shelf):
    """A shelf to which lines are said."""

    def __init__(self, rules, slack=0):
        Shelf.__init__(self, rules, slack)

    def say(self, line):
        """The answer to a line, of any kind; it is read whole ahead of what it does."""
        if not isinstance(line, str):
            raise NoLine(line)
        if line in ALONE:
            answer = ALONE[line]
            return answer(self)
        word, blank, rest = line.partition(" ")
        if word not in WITH_REST:
            raise NoLine(line)
        answer_with = WITH_REST[word]
        try:
            return answer_with(self, rest)
        except NoText:
            raise NoLine(line) from None
