"""How names, entries and works are written."""

from takesworks.entries import FIELDS, field_of, key_of

# The word ahead of what is told in a field.
FIELD_WORDS = {"code": "code", "title": "title", "players": "by", "day": "day", "length": "long"}
INDENT = "  "


def show_name(name):
    tongue, text = name
    return f"{tongue}:{text}"


def show_key(key):
    house, number = key
    return f"{house} {number}"


def show_keys(keys):
    return ", ".join([show_key(key) for key in keys])


def show_told(field, thing):
    """What is told in this field, with its word."""
    if field == "title":
        text = show_name(thing)
    elif field == "players":
        text = ", ".join([show_name(player) for player in thing])
    else:
        text = str(thing)
    return f"{FIELD_WORDS[field]} {text}"


def show_entry(entry):
    """The row of an entry."""
    fields = [field for field in FIELDS if field_of(entry, field) is not None]
    return " | ".join([show_key(key_of(entry))] + [show_told(field, field_of(entry, field)) for field in fields])


def work_rows(work, deep):
    """The rows of a work that stands in so many others."""
    name, parts = work
    rows = [INDENT * deep + show_name(name)]
    for part in parts:
        rows.extend(work_rows(part, deep + 1))
    return rows


def show_work(work):
    """The text of a work: a row for it and for each of its parts."""
    return "\n".join(work_rows(work, 0))
