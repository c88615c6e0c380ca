"""Where the rows of discs lead, and back, of all that stands on a shelf."""

from takesworks.days import place_of
from takesworks.entries import field_of
from takesworks.wishes import fewest_discs


def names_told(entry, field):
    """The tuple of the names that an entry tells as its title, or as its players."""
    thing = field_of(entry, field)
    if thing is None:
        return ()
    return (thing,) if field == "title" else thing


def least_name(standing, name):
    """By what the class of a name is known."""
    return standing.names.class_of(name)[0]


def least_names(standing, keys, field):
    """The rising tuple of the least names of the classes of all that entries tell as title, or as players."""
    return tuple(sorted({least_name(standing, name) for key in keys
                         for name in names_told(standing.by_key[key], field)}))


def where_leads(standing, key):
    """The take, titles and players to which a row with this key leads; None where no entry has it."""
    if key not in standing.take_of:
        return None
    take = standing.take_of[key]
    return (take, least_names(standing, take, "title"), least_names(standing, take, "players"))


def rows_to(standing, wanted):
    """The rising tuple of the rows that lead to one of these takes."""
    return tuple([(label, number) for label in sorted(standing.by_label)
                  for number, key in enumerate(standing.by_label[label].rows)
                  if key in standing.take_of and standing.take_of[key] in wanted])


def takes_with(standing, name, fields):
    """The takes of which an entry tells, in one of these fields, a name that is one with it."""
    least = least_name(standing, name)
    return [take for take in standing.all_takes
            if any([least in least_names(standing, take, field) for field in fields])]


def clearest(days):
    """The first full day, else the first with a month, else the first; None where there is none."""
    full = [day for day in days if day.day is not None]
    with_month = [day for day in days if day.month is not None]
    fitting = full + with_month + days
    return fitting[0] if len(fitting) > 0 else None


def day_of_take(standing, take):
    """The clearest day that entries of the take tell, by rising keys."""
    days = [field_of(standing.by_key[key], "day") for key in take]
    return clearest([day for day in days if day is not None])


def place_among_played(row):
    """What rows of (day, take, others) are sorted by."""
    day, take, others = row
    return (1, (), take) if day is None else (0, place_of(day), take)


def played_by(standing, name):
    """The rows of (day, take, others) of all takes with this player, sorted."""
    least = least_name(standing, name)
    rows = []
    for take in takes_with(standing, name, ("players",)):
        others = [other for other in least_names(standing, take, "players") if other != least]
        rows.append((day_of_take(standing, take), take, tuple(others)))
    return tuple(sorted(rows, key=place_among_played))


def titles_by(standing, custom, tongue):
    """The texts of all titles in a tongue, as the custom sorts and shows them."""
    titles = least_names(standing, list(standing.by_key), "title")
    texts = [standing.names.called(title, tongue)[1] for title in titles]
    return tuple([custom.shown(text) for text in custom.in_order(texts)])


def take_numbers(standing, keys):
    """The rising tuple of the numbers of the takes of those keys that entries have."""
    return tuple(sorted({standing.all_takes.index(standing.take_of[key]) for key in keys if key in standing.take_of}))


def discs_with(standing, keys):
    """("lacks", the first key whose take is on no disc), or ("fewest", the labels of the fewest discs with all)."""
    for key in keys:
        if len(rows_to(standing, [standing.take_of[key]])) == 0:
            return ("lacks", key)
    labels = sorted(standing.by_label)
    held = [take_numbers(standing, standing.by_label[label].rows) for label in labels]
    discs = fewest_discs(tuple(held), take_numbers(standing, keys))[1]
    return ("fewest", tuple([labels[number] for number in discs]))
