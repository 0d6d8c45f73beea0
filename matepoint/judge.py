"""The judge: whether a right house could have written a book."""

from matepoint.cards import is_whole
from matepoint.errors import BadBook, MateError
from matepoint.house import House, do_deed
from matepoint.wishes import is_one_of

ROW_LENGTHS = {"come": 4, "off": 3, "change": 4, "less": 4, "wait": 4, "meet": 4, "out": 3}


def has_row_form(thing):
    """Tell of anything whether it is a row, whatever stands behind its word."""
    if not isinstance(thing, tuple) or len(thing) == 0 or not is_one_of(thing[0], list(ROW_LENGTHS)):
        return False
    return len(thing) == ROW_LENGTHS[thing[0]]


def is_same(thing, right):
    """Tell of anything whether it is the right tuple, text or number, part by part."""
    # to Python 1 == True, so each part has to be of the right kind, too
    if isinstance(right, tuple):
        if not isinstance(thing, tuple) or len(thing) != len(right):
            return False
        return all([is_same(one, other) for one, other in zip(thing, right)])
    if isinstance(right, str):
        return isinstance(thing, str) and thing == right
    return is_whole(thing) and thing == right


def is_written(house, at, thing):
    """Do what a row tells; tell of anything whether the house, behind so many rows, has written just that next."""
    if not has_row_form(thing):
        return False
    try:
        # by the words meet and out the house just comes to the time
        do_deed(house, thing[0], thing[1:])
    except MateError:
        return False
    rows = house.book()
    return len(rows) > at and is_same(thing, rows[at])


def judged(rule, borne, quiet, book):
    """Tell the number of the first row that is wrong, None where the book is right."""
    house = House(rule, borne, quiet)
    if not isinstance(book, list):
        raise BadBook("no list")
    for at, thing in enumerate(book):
        if not is_written(house, at, thing):
            return at
    return None
