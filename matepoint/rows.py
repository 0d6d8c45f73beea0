"""Rules, the row of waiters, their sets and meetings, and the papers that show that none are left."""

from matepoint.cards import is_whole, is_word
from matepoint.offers import SIDES, kind_of, none_shown, part, why_none
from matepoint.wishes import is_one_of

RULE_WORDS = ("heavy", "great", "small", "soon")
MOST_RULE_WORDS = 3
MOST_BORNE = 4


def are_unlike(words):
    """Tell whether no word stands twice."""
    return len(set(words)) == len(words)


def is_rule(thing):
    """Tell of anything whether it is a rule."""
    if not isinstance(thing, tuple) or len(thing) > MOST_RULE_WORDS:
        return False
    return all([is_one_of(word, RULE_WORDS) for word in thing]) and are_unlike(thing)


def are_borne(thing):
    """Tell of anything whether it is kinds borne."""
    if not isinstance(thing, tuple) or len(thing) > MOST_BORNE:
        return False
    return all([is_word(kind) for kind in thing]) and are_unlike(thing)


def rank(word, waiter):
    """Tell a number that is the lesser the further ahead a word of a rule puts the waiter."""
    number, offer, left = waiter
    if word == "heavy":
        return -offer[5]
    if word == "great":
        return -left
    if word == "small":
        return left
    return offer[6]


def ranks(rule, waiter):
    """Tell the ranks of a waiter by each word of a rule, and behind them its number."""
    return [rank(word, waiter) for word in rule] + [waiter[0]]


def row_of(rule, waiters):
    """Tell the numbers of the waiters, in the order of the rule."""
    by_rule = sorted(waiters, key=lambda one: ranks(rule, one))
    return [number for number, offer, left in by_rule]


def sides_of(kind, waiters):
    """Tell the numbers of the givers, the takers and the bearers of a kind, a list of each."""
    alike = [waiter for waiter in waiters if kind_of(waiter[1]) == kind]
    return [[number for number, offer, left in alike if offer[0] == side] for side in SIDES]


def sets_of(borne, waiters):
    """Tell the sets of waiters, sorted, whether they can meet or not."""
    told = []
    for kind in sorted({kind_of(waiter[1]) for waiter in waiters}):
        givers, takers, bearers = sides_of(kind, waiters)
        pairs = [(giver, taker) for giver in givers for taker in takers]
        if kind in borne:
            told.extend([(giver, taker, bearer) for giver, taker in pairs for bearer in bearers])
        else:
            told.extend(pairs)
    return sorted(told)


def by_numbers(waiters):
    """Tell the offer of each waiter and what is left of it, by its number."""
    return {number: (offer, left) for number, offer, left in waiters}


def first_meeting(rule, borne, waiters):
    """Tell the first of the sets that can meet, and its part; None where none can."""
    known = by_numbers(waiters)
    places = {number: place for place, number in enumerate(row_of(rule, waiters))}
    by_row = sorted(sets_of(borne, waiters), key=lambda numbers: sorted([places[number] for number in numbers]))
    for numbers in by_row:
        many = part([known[number] for number in numbers])
        if many > 0:
            return (numbers, many)
    return None


def rest_paper(borne, waiters):
    """Tell what is in the way of each of the sets, None where one of them can meet."""
    known = by_numbers(waiters)
    paper = {}
    for numbers in sets_of(borne, waiters):
        why = why_none([known[number] for number in numbers])
        if why is None:
            return None
        paper[numbers] = why
    return paper


def are_numbers(thing):
    """Tell of anything whether it is a tuple of whole numbers."""
    return isinstance(thing, tuple) and all([is_whole(one) for one in thing])


def rest_holds(borne, waiters, thing):
    """Tell of anything whether it is a rest paper of the waiters."""
    if not isinstance(thing, dict) or not all([are_numbers(key) for key in thing]):
        return False
    sets = sets_of(borne, waiters)
    if sorted(thing) != sets:
        return False
    known = by_numbers(waiters)
    return all([none_shown([known[number] for number in numbers], thing[numbers]) for numbers in sets])
