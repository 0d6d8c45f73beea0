"""Offers, sets of those who might meet, and what is in their way."""

from matepoint.cards import is_card, is_time, is_whole
from matepoint.reasons import reason, shows
from matepoint.wishes import is_one_of, is_wish, lets

SIDES = ("give", "take", "bear")
GREATEST_MANY = 10 ** 6
GREATEST_WEIGHT = 1000


def is_between(thing, low, high):
    """Tell of anything whether it is a whole number from low to high."""
    return is_whole(thing) and low <= thing <= high


def is_offer(thing):
    """Tell of anything whether it is an offer."""
    if not isinstance(thing, tuple) or len(thing) != 7:
        return False
    side, card, wish, many, least, weight, till = thing
    if not is_one_of(side, SIDES) or not is_card(card) or not is_wish(wish):
        return False
    if not is_between(many, 1, GREATEST_MANY) or not is_between(least, 1, many):
        return False
    return is_between(weight, 0, GREATEST_WEIGHT) and is_time(till)


def name_of(offer):
    """Tell the name on the offer's card."""
    return offer[1][0]


def kind_of(offer):
    """Tell the kind on the offer's card."""
    return offer[1][1]


def wish_at(some, place):
    """Tell the wish of the one at that place of a set."""
    return some[place][0][2]


def card_at(some, place):
    """Tell the card of the one at that place of a set."""
    return some[place][0][1]


def least_left(some):
    """Tell the least left in a set."""
    return min([left for offer, left in some])


def are_kinds_unlike(some):
    """Tell whether the kinds in a set are not all alike."""
    return len({kind_of(offer) for offer, left in some}) > 1


def are_names_alike(some):
    """Tell whether two names in a set are alike."""
    return len({name_of(offer) for offer, left in some}) < len(some)


def is_wish_in_way(some, i, j):
    """Tell whether the wish of the one at place i doesn't let the card of another one at place j."""
    return i != j and not lets(wish_at(some, i), card_at(some, j))


def is_least_in_way(some, i):
    """Tell whether the least left is too little for the one at place i."""
    offer, left = some[i]
    return min(offer[4], left) > least_left(some)


def in_way(some):
    """Tell the first thing in the way of a set, a wish without its reason; None where the set can meet."""
    if are_kinds_unlike(some):
        return ("kind",)
    if are_names_alike(some):
        return ("name",)
    for i in range(len(some)):
        for j in range(len(some)):
            if is_wish_in_way(some, i, j):
                return ("wish", i, j)
    for i in range(len(some)):
        if is_least_in_way(some, i):
            return ("least", i)
    return None


def part(some):
    """Tell the part of a set, 0 where it can't meet."""
    if in_way(some) is None:
        return least_left(some)
    return 0


def why_none(some):
    """Tell the first thing in the way of a set, None where it can meet."""
    way = in_way(some)
    if way is None or way[0] != "wish":
        return way
    word, i, j = way
    return (word, i, j, reason(wish_at(some, i), card_at(some, j)))


def is_wish_shown(some, i, j, thing):
    """Tell of any i, j and thing whether they are two places of a set with a wish in the way, and a reason for it."""
    last = len(some) - 1
    if not is_between(i, 0, last) or not is_between(j, 0, last):
        return False
    return is_wish_in_way(some, i, j) and shows(wish_at(some, i), card_at(some, j), thing)


def none_shown(some, thing):
    """Tell of anything whether it is a thing in the way of a set, with any reason that shows it."""
    if not isinstance(thing, tuple) or len(thing) == 0:
        return False
    word = thing[0]
    if len(thing) == 1 and is_one_of(word, ("kind",)):
        return are_kinds_unlike(some)
    if len(thing) == 1 and is_one_of(word, ("name",)):
        return are_names_alike(some)
    if len(thing) == 2 and is_one_of(word, ("least",)):
        return is_between(thing[1], 0, len(some) - 1) and is_least_in_way(some, thing[1])
    if len(thing) == 4 and is_one_of(word, ("wish",)):
        return is_wish_shown(some, thing[1], thing[2], thing[3])
    return False
