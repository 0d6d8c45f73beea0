"""Things that the tests of several modules hand in."""

import random
from unittest.mock import ANY

SIX_WORDS = ("any", "is", "by", "not", "and", "or")

ANN = ("ann", "bread", ("fresh", "rye"), (("price", 7), ("weight", 0)))


def tower(make, times, base=("any",)):
    """The base with make put around it so many times."""
    thing = base
    for step in range(times):
        thing = make(thing)
    return thing


def deep_things():
    """Things nested some thousand deep, each behind a short name for messages."""
    return [
        ("deep tuple", tower(lambda thing: (thing,), 5000)),
        ("deep pair", tower(lambda thing: ("ann", thing), 5000)),
        ("deep four", tower(lambda thing: (thing, thing, (), ()), 5000)),
        ("deep list", tower(lambda thing: [thing], 5000)),
        ("deep dict", tower(lambda thing: {"ann": thing}, 5000)),
    ]


def odd_things():
    """Things that are no word, no number, no time, no card, no size and no wish."""
    return [
        None, True, False, ..., 0.0, 1.0, 7.5, float("inf"), float("nan"), 1j,
        b"", b"ann", b"any", bytearray(b"ann"), [], ["ann"], {}, {"ann": 1}, set(), {"ann"}, frozenset(("any",)),
        range(4), object(), object, len, ANY, (), (None,), (True,), ((),), ([],), ((("any",),),),
    ]


def full_wish(word, other):
    """A wish of forty parts, six deep: an and of ors, or an or of ands."""
    plain = (("any",), ("is", "rye"), ("by", "ann"), ("least", "price", 0), ("most", "price", 10 ** 9), ("is", "old"))
    wide = (other, plain)
    deep = tower(lambda wish: ("not", wish), 3, (other, plain[:5]))
    return (word, (wide, wide, wide, wide, ("not", ("by", "bob")), deep))


def offer(side, name, kind="bread", wish=("any",), many=9, least=1, weight=0, till=100, marks=(), sizes=()):
    """An offer, with plain parts where none are told."""
    return (side, (name, kind, marks, sizes), wish, many, least, weight, till)


class Chance:
    """Things by chance, but the same ones each time."""

    def __init__(self, seed):
        self.dice = random.Random(seed)

    def word(self):
        return self.dice.choice(("a", "b", "fresh", "least", "rye", "price", "abcdefgh"))

    def plain_wish(self):
        word = self.dice.choice(("any", "is", "by", "least", "most"))
        if word == "any":
            return (word,)
        if word in ("is", "by"):
            return (word, self.word())
        return (word, self.word(), self.dice.choice((0, 1, 7, 10, 10 ** 9)))

    def wish(self, deep=4):
        """A wish at most so deep; four deep it has at most twenty-seven parts."""
        word = self.dice.choice(("not", "and", "or", "plain"))
        if deep == 1 or word == "plain":
            return self.plain_wish()
        if word == "not":
            return (word, self.wish(deep - 1))
        many = self.dice.choice((2, 2, 3) if deep < 4 else (2,))
        return (word, tuple(self.wish(deep - 1) for at in range(many)))
