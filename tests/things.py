"""Things that the tests of several modules hand in."""

from unittest.mock import ANY

SIX_WORDS = ("any", "is", "by", "not", "and", "or")

ANN = ("ann", "bread", ("fresh", "rye"), (("price", 7), ("weight", 0)))


def tower(make, times, base=("any",)):
    """The base with make put around it so many times."""
    thing = base
    for step in range(times):
        thing = make(thing)
    return thing


def deep_things():
    """Things nested some thousand deep, each behind a short name for messages."""
    return [
        ("deep tuple", tower(lambda thing: (thing,), 5000)),
        ("deep pair", tower(lambda thing: ("ann", thing), 5000)),
        ("deep four", tower(lambda thing: (thing, thing, (), ()), 5000)),
        ("deep list", tower(lambda thing: [thing], 5000)),
        ("deep dict", tower(lambda thing: {"ann": thing}, 5000)),
    ]


def odd_things():
    """Things that are no word, no number, no time, no card, no size and no wish."""
    return [
        None, True, False, ..., 0.0, 1.0, 7.5, float("inf"), float("nan"), 1j,
        b"", b"ann", b"any", bytearray(b"ann"), [], ["ann"], {}, {"ann": 1}, set(), {"ann"}, frozenset(("any",)),
        range(4), object(), object, len, ANY, (), (None,), (True,), ((),), ([],), ((("any",),),),
    ]
