"""Reasons why a wish lets a card, or doesn't."""

from matepoint.cards import is_whole
from matepoint.wishes import lets


def reason(wish, card):
    """Tell the reason for a wish and a card, with the least number everywhere."""
    word = wish[0]
    if word == "not":
        below = reason(wish[1], card)
        return (not below[0], below)
    if word in ("and", "or"):
        return joined_reason(word, [reason(one, card) for one in wish[1]])
    return (lets(wish, card), None)


def joined_reason(word, reasons):
    """Tell the reason for an and or an or, of the reasons for its wishes."""
    # an or lets by one alone, an and doesn't let by one alone
    by_one = word == "or"
    for k in range(len(reasons)):
        if reasons[k][0] == by_one:
            return (by_one, (k, reasons[k]))
    return (not by_one, tuple(reasons))


def shows(wish, card, thing):
    """Tell of anything whether it is a reason for the wish and the card."""
    if not isinstance(thing, tuple) or len(thing) != 2:
        return False
    truth, below = thing
    # to Python 1 and 0 are like True and False
    if not isinstance(truth, bool) or truth != lets(wish, card):
        return False
    if wish[0] == "not":
        return shows(wish[1], card, below)
    if wish[0] not in ("and", "or"):
        return below is None
    if truth == (wish[0] == "or"):
        return shows_one(wish[1], card, truth, below)
    return shows_all(wish[1], card, below)


def shows_one(wishes, card, truth, thing):
    """Tell of anything whether it is the number of a wish of that truth, and a reason for it."""
    if not isinstance(thing, tuple) or len(thing) != 2:
        return False
    k, below = thing
    if not is_whole(k) or not 0 <= k < len(wishes):
        return False
    return shows(wishes[k], card, below) and below[0] == truth


def shows_all(wishes, card, thing):
    """Tell of anything whether it is the tuple of reasons for all the wishes, in order."""
    if not isinstance(thing, tuple) or len(thing) != len(wishes):
        return False
    return all([shows(wish, card, below) for wish, below in zip(wishes, thing)])
