"""Reasons: 4.1, 4.2, and what 0.2 says of them."""

import copy
import itertools
import unittest

from matepoint.reasons import reason, shows
from matepoint.wishes import lets
from tests.things import ANN, Chance, deep_things, full_wish, odd_things, tower

ANY = ("any",)
YES, NO = ("is", "rye"), ("is", "old")
TRUE, FALSE = (True, None), (False, None)

TOLD = [
    (ANY, TRUE),
    (YES, TRUE),
    (NO, FALSE),
    (("by", "ann"), TRUE),
    (("by", "bob"), FALSE),
    (("least", "price", 7), TRUE),
    (("least", "price", 8), FALSE),
    (("least", "length", 0), FALSE),
    (("most", "price", 7), TRUE),
    (("most", "price", 6), FALSE),
    (("most", "length", 9), FALSE),
    (("not", NO), (True, FALSE)),
    (("not", YES), (False, TRUE)),
    (("not", ("not", YES)), (True, (False, TRUE))),
    (("and", (YES, ANY)), (True, (TRUE, TRUE))),
    (("and", (YES, YES, YES)), (True, (TRUE, TRUE, TRUE))),
    (("and", (NO, YES)), (False, (0, FALSE))),
    (("and", (YES, NO)), (False, (1, FALSE))),
    (("and", (NO, NO)), (False, (0, FALSE))),
    (("and", (YES, YES, NO, NO)), (False, (2, FALSE))),
    (("and", (YES,) * 5 + (NO,)), (False, (5, FALSE))),
    (("or", (NO, NO)), (False, (FALSE, FALSE))),
    (("or", (NO, NO, NO)), (False, (FALSE, FALSE, FALSE))),
    (("or", (YES, NO)), (True, (0, TRUE))),
    (("or", (NO, YES)), (True, (1, TRUE))),
    (("or", (YES, YES)), (True, (0, TRUE))),
    (("or", (NO, NO, YES, YES)), (True, (2, TRUE))),
    (("or", (NO,) * 5 + (YES,)), (True, (5, TRUE))),
    (("not", ("and", (YES, NO))), (True, (False, (1, FALSE)))),
    (("not", ("or", (NO, YES))), (False, (True, (1, TRUE)))),
    (("not", ("or", (NO, NO))), (True, (False, (FALSE, FALSE)))),
    (("not", ("and", (YES, YES))), (False, (True, (TRUE, TRUE)))),
    (("and", (("or", (NO, YES)), ("not", NO))), (True, ((True, (1, TRUE)), (True, FALSE)))),
    (("and", (YES, ("or", (NO, NO)))), (False, (1, (False, (FALSE, FALSE))))),
    (("or", (("and", (YES, NO)), ("not", NO))), (True, (1, (True, FALSE)))),
    (("or", (("and", (YES, NO)), ("not", YES))), (False, ((False, (1, FALSE)), (False, TRUE)))),
    (("or", (NO, ("and", (("or", (YES, YES)), YES)))), (True, (1, (True, ((True, (0, TRUE)), TRUE))))),
]


def all_reasons(wish, card):
    """All reasons for a wish and a card, by the words of 4.1."""
    truth = lets(wish, card)
    if wish[0] == "not":
        return [(truth, below) for below in all_reasons(wish[1], card)]
    if wish[0] not in ("and", "or"):
        return [(truth, None)]
    if (wish[0] == "and") == truth:
        return [(truth, belows) for belows in itertools.product(*[all_reasons(one, card) for one in wish[1]])]
    return [(truth, (k, below)) for k, one in enumerate(wish[1]) if lets(one, card) == truth
            for below in all_reasons(one, card)]


def changed(thing, ways):
    """The thing with each part of it in turn, at any depth, changed to each that ways tells of the part."""
    yield from ways(thing)
    if isinstance(thing, tuple):
        for at, one in enumerate(thing):
            for other in changed(one, ways):
                yield thing[:at] + (other,) + thing[at + 1:]


def small_changes(thing):
    """Things much like a part of a reason."""
    told = [None, True, False, 0, 1, -1, "", (), (True,), TRUE, FALSE, (0, TRUE), (1, FALSE), (TRUE, TRUE)]
    if isinstance(thing, bool):
        return told + [not thing, int(thing), float(thing)]
    if isinstance(thing, int):
        return told + [float(thing), str(thing)] + list(range(-7, 8))
    if isinstance(thing, tuple):
        told += [list(thing), (thing,), thing + (None,), thing[::-1], thing[1:], thing[:-1], thing + thing[-1:]]
    return told


class ReasonTest(unittest.TestCase):
    def check(self, wish, card, expected):
        with self.subTest(wish):
            # repr tells truths from numbers, and tuples from lists
            self.assertEqual(repr(reason(wish, card)), repr(expected))
            self.assertEqual(repr(reason(wish, card)), repr(expected))
            self.assertIs(reason(wish, card)[0], lets(wish, card))
            self.assertIs(shows(wish, card, expected), True)

    def test_told_reasons(self):
        for wish, expected in TOLD:
            self.check(wish, ANN, expected)
            self.check(("not", wish), ANN, (not expected[0], expected))

    def test_each_and_and_or_by_its_truths(self):
        for many in range(2, 7):
            for truths in itertools.product((True, False), repeat=many):
                wishes = tuple(YES if truth else NO for truth in truths)
                below = tuple((truth, None) for truth in truths)
                self.check(("and", wishes), ANN,
                           (True, below) if all(truths) else (False, (truths.index(False), FALSE)))
                self.check(("or", wishes), ANN,
                           (True, (truths.index(True), TRUE)) if any(truths) else (False, below))

    def test_the_least_numbers_everywhere(self):
        chance = Chance(41)
        for wish in [chance.wish(3) for at in range(200)]:
            # two reasons for the same differ first in a number, of one figure
            self.check(wish, ANN, min(all_reasons(wish, ANN), key=repr))

    def test_great_wishes(self):
        for wish in (full_wish("and", "or"), full_wish("or", "and")):
            for card in (ANN, ("bob", "wood", (), ())):
                self.assertIs(reason(wish, card)[0], lets(wish, card))
                self.assertIs(shows(wish, card, reason(wish, card)), True)

    def test_somewhat_beyond_the_limits(self):
        nots = tower(lambda wish: ("not", wish), 9, YES)
        self.assertIs(shows(nots, ANN, reason(nots, ANN)), True)
        self.assertEqual(reason(("or", (NO,) * 8 + (YES,)), ANN), (True, (8, TRUE)))

    def test_by_name(self):
        self.assertEqual(reason(wish=YES, card=ANN), TRUE)
        self.assertEqual(reason(card=ANN, wish=NO), FALSE)


class ShowsTest(unittest.TestCase):
    def tell(self, name, wish, thing, truth, card=ANN):
        with self.subTest(name):
            self.assertIs(shows(wish, card, thing), truth)
            self.assertIs(shows(wish, card, thing), truth)

    def check(self, wish, thing, truth, card=ANN):
        self.tell(f"{wish!r} {thing!r}", wish, thing, truth, card)

    def test_any_right_number(self):
        wish = ("and", (NO, YES, ("not", YES), NO))
        self.check(wish, (False, (0, FALSE)), True)
        self.check(wish, (False, (2, (False, TRUE))), True)
        self.check(wish, (False, (3, FALSE)), True)
        self.check(wish, (False, (1, TRUE)), False)
        self.check(wish, (False, (1, FALSE)), False)
        self.check(wish, (False, (2, FALSE)), False)
        self.check(wish, (False, (4, FALSE)), False)
        self.check(wish, (False, (-1, FALSE)), False)
        self.check(wish, (False, (10 ** 39, FALSE)), False)
        wish = ("or", (YES, NO, ("not", NO), YES))
        self.check(wish, (True, (0, TRUE)), True)
        self.check(wish, (True, (2, (True, FALSE))), True)
        self.check(wish, (True, (3, TRUE)), True)
        self.check(wish, (True, (1, FALSE)), False)
        self.check(wish, (True, (1, TRUE)), False)
        self.check(wish, (True, (-1, TRUE)), False)
        self.check(wish, (True, (-4, TRUE)), False)

    def test_truths_turned_about(self):
        for wish, told in TOLD:
            self.check(wish, (not told[0], told[1]), False)
            self.check(("not", wish), (told[0], told), False)
            self.check(("not", wish), (not told[0], (not told[0], told[1])), False)

    def test_ones_and_noughts_for_truths(self):
        for wish, told in TOLD:
            self.check(wish, (int(told[0]), told[1]), False)
            self.check(wish, (float(told[0]), told[1]), False)
            self.check(("not", wish), (not told[0], (int(told[0]), told[1])), False)
        self.check(("and", (YES, YES)), (True, ((True, None), (1, None))), False)

    def test_truths_for_numbers(self):
        self.check(("and", (NO, NO)), (False, (False, FALSE)), False)
        self.check(("and", (NO, NO)), (False, (True, FALSE)), False)
        self.check(("or", (YES, YES)), (True, (False, TRUE)), False)
        self.check(("or", (YES, YES)), (True, (True, TRUE)), False)
        self.check(("or", (YES, YES)), (True, (0.0, TRUE)), False)
        self.check(("or", (YES, YES)), (True, ("0", TRUE)), False)

    def test_the_below_of_the_other_truth(self):
        self.check(("and", (YES, YES)), (True, (0, TRUE)), False)
        self.check(("or", (NO, NO)), (False, (0, FALSE)), False)
        self.check(("and", (NO, YES)), (False, (FALSE, TRUE)), False)
        self.check(("or", (NO, YES)), (True, (FALSE, TRUE)), False)
        self.check(("and", (NO, YES)), (True, (TRUE, TRUE)), False)
        self.check(("not", NO), (True, None), False)
        self.check(("not", NO), (True, (FALSE,)), False)
        self.check(YES, (True, TRUE), False)
        self.check(YES, (True, ()), False)
        self.check(NO, (False, False), False)

    def test_reasons_too_few_too_many_and_in_another_order(self):
        self.check(("and", (YES, YES, YES)), (True, (TRUE, TRUE)), False)
        self.check(("and", (YES, YES)), (True, (TRUE, TRUE, TRUE)), False)
        self.check(("and", (YES, YES)), (True, ()), False)
        self.check(("and", (YES, ("not", NO))), (True, (TRUE, (True, FALSE))), True)
        self.check(("and", (YES, ("not", NO))), (True, ((True, FALSE), TRUE)), False)
        self.check(("or", (NO, ("not", YES))), (False, ((False, TRUE), FALSE)), False)
        self.check(("or", (NO, YES)), (True, (1,)), False)
        self.check(("or", (NO, YES)), (True, (1, TRUE, TRUE)), False)
        self.check(("or", (NO, YES)), (True, 1), False)

    def test_all_right_reasons_and_all_small_changes_of_them(self):
        chance = Chance(42)
        wishes = [wish for wish, told in TOLD] + [chance.wish(3) for at in range(40)]
        for wish in wishes:
            right = all_reasons(wish, ANN)
            known = {repr(one) for one in right}
            for one in right:
                self.check(wish, one, True)
            for one in right[:3] + right[-2:]:
                for other in changed(one, small_changes):
                    self.assertIs(shows(wish, ANN, other), repr(other) in known, (wish, other))

    def test_other_kinds_at_any_place(self):
        for wish, told in TOLD:
            known = {repr(one) for one in all_reasons(wish, ANN)}
            for thing in changed(told, lambda part: odd_things()):
                self.assertIs(shows(wish, ANN, thing), repr(thing) in known, (wish, thing))

    def test_lists_for_tuples(self):
        self.check(YES, [True, None], False)
        self.check(("not", NO), (True, [False, None]), False)
        self.check(("and", (YES, YES)), (True, [TRUE, TRUE]), False)
        self.check(("or", (NO, YES)), (True, [1, TRUE]), False)

    def test_deep_things(self):
        for name, deep in deep_things():
            for wish, told in TOLD:
                for at, thing in enumerate(changed(told, lambda part: [deep, (deep, deep), (0, deep), (True, deep)])):
                    self.tell(f"{name} {wish!r} {at}", wish, thing, False)

    def test_towers_of_reasons(self):
        for make in (lambda one: (True, one), lambda one: (False, one), lambda one: (True, (one, one)),
                     lambda one: (False, (0, one)), lambda one: (True, (1, one))):
            for wish, told in TOLD:
                self.tell(repr(wish), wish, tower(make, 3000, told), False)

    def test_a_reason_of_another_wish_or_card(self):
        other = ("bob", "wood", ("old",), (("length", 4),))
        for wish, told in TOLD:
            for another, right in TOLD:
                known = {repr(one) for one in all_reasons(wish, ANN)}
                self.check(wish, right, repr(right) in known)
            known = {repr(one) for one in all_reasons(wish, other)}
            self.check(wish, told, repr(told) in known, other)
        self.check(YES, TRUE, False, other)
        self.check(NO, TRUE, True, other)

    def test_what_is_handed_in_stays(self):
        for thing in ([True, None], (True, [1, [True, None]]), (False, {0: (False, None)})):
            kept = copy.deepcopy(thing)
            for wish, told in TOLD:
                shows(wish, ANN, thing)
            self.assertEqual(thing, kept)

    def test_by_name(self):
        self.assertIs(shows(wish=YES, card=ANN, thing=TRUE), True)
        self.assertIs(shows(thing=TRUE, card=ANN, wish=NO), False)


if __name__ == "__main__":
    unittest.main()
