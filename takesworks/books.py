"""Books: what shows that no so many discs hold all wishes.

While a book is gone through, discs are taken: some wishes are still missing, and some discs are left to be taken.
"""

from takesworks.kinds import are_rising, is_whole
from takesworks.wishes import fewest_discs, holders, not_among


def book_for(held, missing, left):
    """A book for so many left, where no so many discs hold all that is missing."""
    # The wish on the fewest discs parts into the fewest books.
    wish = min(missing, key=lambda known: (len(holders(held, known)), known))
    if left == 0:
        return ("left", wish)
    return ("take", wish, tuple([book_for(held, not_among(held[disc], missing), left - 1)
                                 for disc in holders(held, wish)]))


def book_of(held, wishes, many):
    """A book that shows that no so many discs hold all wishes; None where so many do."""
    answer, found = fewest_discs(held, wishes)
    if answer == "fewest" and len(found) <= many:
        return None
    return book_for(held, wishes, many)


def is_missing(missing, thing):
    # A truth is equal to a number.
    return is_whole(thing) and thing in missing


def shows_by_taking(held, missing, left, wish, books):
    """Whether a wish, and a book for each disc that holds it, show that the discs left do not hold all."""
    if left < 1 or not is_missing(missing, wish) or not isinstance(books, tuple):
        return False
    discs = holders(held, wish)
    return len(books) == len(discs) and all([is_book(held, not_among(held[disc], missing), left - 1, book)
                                             for disc, book in zip(discs, books)])


def shows_by_some(held, missing, left, some):
    """Whether some missing wishes, each on other discs, are more than the discs left."""
    if not isinstance(some, tuple) or not all([is_missing(missing, wish) for wish in some]):
        return False
    on_one_disc = [[known for known in some if known in things] for things in held]
    return are_rising(some) and len(some) > left and all([len(shared) < 2 for shared in on_one_disc])


def is_book(held, missing, left, thing):
    """Whether the thing, of any kind, shows that so many discs do not hold all that is missing."""
    if not isinstance(thing, tuple) or len(thing) < 2 or not isinstance(thing[0], str):
        return False
    if thing[0] == "take" and len(thing) == 3:
        return shows_by_taking(held, missing, left, thing[1], thing[2])
    if thing[0] == "left" and len(thing) == 2:
        return left == 0 and is_missing(missing, thing[1])
    return thing[0] == "apart" and len(thing) == 2 and shows_by_some(held, missing, left, thing[1])


def shows_none(held, wishes, many, thing):
    """Whether the thing, of any kind, is a book that shows that no so many discs hold all wishes."""
    return is_book(held, wishes, many, thing)
