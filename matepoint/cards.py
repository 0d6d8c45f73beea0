"""Words, numbers, times and cards."""

LETTERS = "abcdefghijklmnopqrstuvwxyz"
LONGEST_WORD = 8
WISH_WORDS = ("any", "is", "by", "not", "and", "or")
GREATEST_NUMBER = 10 ** 9
MOST_MARKS = 6
MOST_SIZES = 6


def is_long_word(text):
    """Tell of a text whether it is a word, however long."""
    return len(text) > 0 and text not in WISH_WORDS and all([sign in LETTERS for sign in text])


def is_word(thing):
    """Tell of anything whether it is a word."""
    return isinstance(thing, str) and len(thing) <= LONGEST_WORD and is_long_word(thing)


def is_whole(thing):
    """Tell of anything whether it is a whole number."""
    # to Python True and False are ints too
    return isinstance(thing, int) and not isinstance(thing, bool)


def is_number(thing):
    """Tell of anything whether it is a number."""
    return is_whole(thing) and 0 <= thing <= GREATEST_NUMBER


def is_time(thing):
    """Tell of anything whether it is a time."""
    return is_number(thing)


def rise(words):
    """Tell whether each word is above the one ahead of it, so that none stands twice."""
    return all([words[at - 1] < words[at] for at in range(1, len(words))])


def are_marks(thing):
    """Tell of anything whether it is the marks of a card."""
    if not isinstance(thing, tuple) or len(thing) > MOST_MARKS:
        return False
    return all([is_word(mark) for mark in thing]) and rise(thing)


def is_size(thing):
    """Tell of anything whether it is one size of a card."""
    return isinstance(thing, tuple) and len(thing) == 2 and is_word(thing[0]) and is_number(thing[1])


def are_sizes(thing):
    """Tell of anything whether it is the sizes of a card."""
    if not isinstance(thing, tuple) or len(thing) > MOST_SIZES:
        return False
    return all([is_size(size) for size in thing]) and rise([size[0] for size in thing])


def is_card(thing):
    """Tell of anything whether it is a card."""
    if not isinstance(thing, tuple) or len(thing) != 4:
        return False
    return is_word(thing[0]) and is_word(thing[1]) and are_marks(thing[2]) and are_sizes(thing[3])


def has_mark(card, word):
    """Tell whether the word is one of the card's marks."""
    return word in card[2]


def size_of(card, word):
    """Tell the number of the card's size of that word, None where it has no such size."""
    for name, number in card[3]:
        if name == word:
            return number
    return None
