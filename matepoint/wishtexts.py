"""Wishes as texts: how they are written, and how they are read."""

from matepoint.cards import is_long_word
from matepoint.errors import NoText
from matepoint.wishes import is_wish

FIGURES = "0123456789"
MOST_FIGURES = 10
MOST_WITHIN = 12
SIGNS = {">=": "least", "<=": "most"}
# the looser one ahead
JOINS = ("or", "and")
BRACKETED = {"not": ("and", "or"), "and": ("and", "or"), "or": ("or",)}


def wish_text(wish):
    """Tell the text of a wish."""
    word = wish[0]
    if word == "any":
        return word
    if word in ("is", "by"):
        return f"{word} {wish[1]}"
    if word == "least":
        return f"{wish[1]} >= {wish[2]}"
    if word == "most":
        return f"{wish[1]} <= {wish[2]}"
    if word == "not":
        return f"not {text_within(word, wish[1])}"
    between = f" {word} "
    return between.join([text_within(word, one) for one in wish[1]])


def text_within(word, wish):
    """Tell the text of a wish as it stands in a not, an and or an or of that word."""
    text = wish_text(wish)
    if wish[0] in BRACKETED[word]:
        return f"( {text} )"
    return text


def is_number_text(word):
    """Tell whether a word of a text can stand as a number, however great it is."""
    if not 1 <= len(word) <= MOST_FIGURES or not all([sign in FIGURES for sign in word]):
        return False
    return word == "0" or word[0] != "0"


def word_at(words, at):
    """Tell the word at that place, one without signs behind the end: it can't stand anywhere."""
    if at < len(words):
        return words[at]
    return ""


def name_at(words, at):
    """Tell the mark, the name or the size at that place, or refuse it."""
    word = word_at(words, at)
    if not is_long_word(word):
        raise NoText(at)
    return word


def number_at(words, at):
    """Tell the number at that place, or refuse it."""
    word = word_at(words, at)
    if not is_number_text(word):
        raise NoText(at)
    return int(word)


def read_plain(words, at):
    """Read a wish with no wish in it from that place on; tell it and the place behind it."""
    word = word_at(words, at)
    if word == "any":
        return (word,), at + 1
    if word in ("is", "by"):
        return (word, name_at(words, at + 1)), at + 2
    size = name_at(words, at)
    sign = word_at(words, at + 1)
    if sign not in SIGNS:
        raise NoText(at + 1)
    return (SIGNS[sign], size, number_at(words, at + 2)), at + 3


def read_one(words, at, within):
    """Read a wish that no and or or joins, within so many brackets and nots; tell it and the place behind it."""
    word = word_at(words, at)
    if word not in ("not", "("):
        return read_plain(words, at)
    if within == MOST_WITHIN:
        raise NoText(at)
    if word == "not":
        wish, behind = read_one(words, at + 1, within + 1)
        return ("not", wish), behind
    wish, behind = read_joined(words, at + 1, within + 1, JOINS)
    if word_at(words, behind) != ")":
        raise NoText(behind)
    return wish, behind + 1


def read_joined(words, at, within, joins):
    """Read a wish in which those words may join, the looser one ahead; tell it and the place behind it."""
    if len(joins) == 0:
        return read_one(words, at, within)
    wish, behind = read_joined(words, at, within, joins[1:])
    wishes = [wish]
    while word_at(words, behind) == joins[0]:
        wish, behind = read_joined(words, behind + 1, within, joins[1:])
        wishes.append(wish)
    if len(wishes) == 1:
        return wish, behind
    return (joins[0], tuple(wishes)), behind


def read_wish(text):
    """Tell the wish that a text tells; what tells none is refused with NoText."""
    if not isinstance(text, str):
        raise NoText(0)
    words = text.split(" ")
    wish, behind = read_joined(words, 0, 0, JOINS)
    # where no word is left over, behind is how many there are
    if behind < len(words) or not is_wish(wish):
        raise NoText(behind)
    return wish
