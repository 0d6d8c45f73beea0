"""Wishes, and which cards they let."""

from matepoint.cards import has_mark, is_number, is_word, size_of

DEEPEST = 6
MOST_PARTS = 40
FEWEST_JOINED = 2
MOST_JOINED = 6


def is_one_of(thing, texts):
    """Tell of anything whether it is one of the texts."""
    return isinstance(thing, str) and thing in texts


def is_plain_wish(thing):
    """Tell of anything whether it is a wish with no wish in it."""
    if not isinstance(thing, tuple):
        return False
    if len(thing) == 1:
        return is_one_of(thing[0], ("any",))
    if len(thing) == 2:
        return is_one_of(thing[0], ("is", "by")) and is_word(thing[1])
    if len(thing) == 3:
        return is_one_of(thing[0], ("least", "most")) and is_word(thing[1]) and is_number(thing[2])
    return False


def are_joined(thing):
    """Tell of anything whether it is a tuple of as many as an and or an or may join."""
    return isinstance(thing, tuple) and FEWEST_JOINED <= len(thing) <= MOST_JOINED


def things_in(thing):
    """Tell what has to be wishes for a thing to be a not, an and or an or; () where it can't be one."""
    if not isinstance(thing, tuple) or len(thing) != 2:
        return ()
    if is_one_of(thing[0], ("not",)):
        return (thing[1],)
    if is_one_of(thing[0], ("and", "or")) and are_joined(thing[1]):
        return thing[1]
    return ()


def has_form(thing):
    """Tell of anything whether it is a wish, if only all things in it are wishes."""
    return is_plain_wish(thing) or len(things_in(thing)) > 0


def is_wish(thing):
    """Tell of anything whether it is a wish."""
    # layer by layer, not by recursion: no thing is so deep or wide that it can't be told
    layer = [thing]
    parts = 0
    for depth in range(DEEPEST):
        parts += len(layer)
        if parts > MOST_PARTS or not all([has_form(one) for one in layer]):
            return False
        layer = [below for one in layer for below in things_in(one)]
    return len(layer) == 0


def lets(wish, card):
    """Tell whether the wish lets the card."""
    word = wish[0]
    if word == "any":
        return True
    if word == "is":
        return has_mark(card, wish[1])
    if word == "by":
        return card[0] == wish[1]
    if word == "not":
        return not lets(wish[1], card)
    if word == "and":
        return all([lets(one, card) for one in wish[1]])
    if word == "or":
        return any([lets(one, card) for one in wish[1]])
    return lets_size(wish, card)


def lets_size(wish, card):
    """Tell whether a least or a most lets the card."""
    size = size_of(card, wish[1])
    if size is None:
        return False
    if wish[0] == "least":
        return size >= wish[2]
    return size <= wish[2]
