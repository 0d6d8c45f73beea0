"""Offers and sets: 5.1, 5.2, 5.3, and what 0.2 says of them."""

import copy
import itertools
import unittest

from matepoint.offers import is_offer, none_shown, part, why_none
from matepoint.reasons import reason
from matepoint.wishes import lets
from tests.things import ANN, Chance, deep_things, full_wish, odd_things, offer, tower

ANY = ("any",)
OFFER = ("give", ANN, ("is", "rye"), 10, 4, 5, 100)
FALSE, TRUE = (False, None), (True, None)


def put(thing, at, other):
    """The tuple with another thing at a place."""
    return thing[:at] + (other,) + thing[at + 1:]


class OfferTest(unittest.TestCase):
    def tell(self, name, thing, truth):
        with self.subTest(name):
            self.assertIs(is_offer(thing), truth)
            self.assertIs(is_offer(thing), truth)

    def check(self, thing, truth):
        self.tell(repr(thing), thing, truth)

    def check_at(self, at, good, bad):
        """The offer with each thing at that place."""
        for thing in good:
            self.check(put(OFFER, at, thing), True)
        for thing in bad:
            self.check(put(OFFER, at, thing), False)

    def test_sides(self):
        bad = ["", "Give", "GIVE", "giv", "gives", " give", "give ", "bring", "any", b"give", ("give",), ["give"], 0]
        self.check_at(0, ("give", "take", "bear"), bad + odd_things())

    def test_cards(self):
        bad = [("ann", "bread", (), (), ()), ("ann", "bread", ()), ["ann", "bread", (), ()], ("Ann", "bread", (), ()),
               ("ann", "any", (), ()), ("ann", "bread", ("b", "a"), ()), ("ann", "bread", (), (("a", -1),)),
               ("ann", "bread", [], ()), "ann", 7, ANY]
        self.check_at(1, [ANN, ("a", "b", (), ()), ("abcdefgh", "abcdefgh", tuple("abcdef"), ())], bad + odd_things())

    def test_wishes(self):
        bad = [("is", "any"), ("is",), ["any"], "any", ("not", ["any"]), ("and", (ANY,)), ("or", (ANY,) * 7), ANN, 7,
               tower(lambda wish: ("not", wish), 6), ("or", (("and", (ANY,) * 6),) * 6), ("least", "a", True)]
        good = [ANY, ("by", "bob"), ("most", "a", 0), tower(lambda wish: ("not", wish), 5), full_wish("and", "or")]
        self.check_at(2, good, bad + odd_things())

    def test_manys(self):
        # OFFER's least is four
        bad = [3, 1, 0, -1, 10 ** 6 + 1, 10 ** 9, "10", (10,), 10.0]
        self.check_at(3, (4, 5, 10, 999999, 10 ** 6), bad + odd_things())
        self.check(put(put(OFFER, 3, 1), 4, 1), True)
        self.check(put(put(OFFER, 3, 0), 4, 0), False)
        self.check(put(put(OFFER, 3, True), 4, 1), False)
        self.check(put(put(OFFER, 3, 10 ** 6), 4, 10 ** 6), True)
        self.check(put(put(OFFER, 3, 10 ** 6 + 1), 4, 1), False)

    def test_leasts(self):
        # OFFER's many is ten
        self.check_at(4, (1, 2, 9, 10), [0, -1, 11, 10 ** 6, "4", (4,), 4.0] + odd_things())

    def test_weights(self):
        self.check_at(5, (0, 1, 999, 1000), [-1, 1001, 10 ** 39, "5", (5,), 5.0] + odd_things())

    def test_tills(self):
        self.check_at(6, (0, 1, 10 ** 9), [-1, 10 ** 9 + 1, 10 ** 39, "5", (5,), 5.0] + odd_things())

    def test_too_few_and_too_many_parts(self):
        for at in range(7):
            self.check(OFFER[:at], False)
            self.check(OFFER[:at] + OFFER[at + 1:], False)
            self.check(OFFER[:at] + (OFFER[at],) + OFFER[at:], False)
        for more in (None, 0, (), ANY, 100):
            self.check(OFFER + (more,), False)
            self.check((more,) + OFFER, False)

    def test_what_is_no_tuple_of_parts(self):
        for thing in odd_things() + [list(OFFER), dict(enumerate(OFFER)), "give ann", 7, ANN, ANY, (OFFER,), "abcdefg"]:
            self.check(thing, False)

    def test_lists_within(self):
        self.check(put(OFFER, 1, list(ANN)), False)
        self.check(put(OFFER, 1, put(ANN, 2, list(ANN[2]))), False)
        self.check(put(OFFER, 2, ["is", "rye"]), False)

    def test_deep_things(self):
        for name, deep in deep_things():
            self.tell(name, deep, False)
            for at in range(7):
                self.tell(f"{name} {at}", put(OFFER, at, deep), False)
            for at in range(4):
                self.tell(f"{name} {at} of the card", put(OFFER, 1, put(ANN, at, deep)), False)
        self.tell("nots", put(OFFER, 2, tower(lambda wish: ("not", wish), 5000)), False)

    def test_what_is_handed_in_stays(self):
        thing = ["give", ["ann", "bread", [], []], ["any"], 1, 1, 0, 0]
        kept = copy.deepcopy(thing)
        is_offer(thing)
        is_offer(tuple(thing))
        self.assertEqual(thing, kept)

    def test_by_name(self):
        self.assertIs(is_offer(thing=OFFER), True)


def can_meet(some):
    """Whether a set can meet, by the words of 5.2."""
    low = min(left for one, left in some)
    pairs = list(itertools.permutations(some, 2))
    return (
        all(a[1][1] == b[1][1] for (a, _), (b, _) in pairs)
        and all(a[1][0] != b[1][0] for (a, _), (b, _) in pairs)
        and all(lets(a[2], b[1]) for (a, _), (b, _) in pairs)
        and all(not low < min(one[4], left) for one, left in some)
    )


def all_in_way(some):
    """All that is in the way of a set, with reason's reasons, in the order of 5.3."""
    low = min(left for one, left in some)
    kinds = [one[1][1] for one, left in some]
    names = [one[1][0] for one, left in some]
    told = []
    if kinds.count(kinds[0]) != len(kinds):
        told.append(("kind",))
    if any(names.count(name) > 1 for name in names):
        told.append(("name",))
    for i, j in itertools.product(range(len(some)), repeat=2):
        if i != j and not lets(some[i][0][2], some[j][0][1]):
            told.append(("wish", i, j, reason(some[i][0][2], some[j][0][1])))
    for i, (one, left) in enumerate(some):
        if min(one[4], left) > low:
            told.append(("least", i))
    return told


def sets_by_chance(many):
    """Sets of two and three with all kinds of things in the way, and with nothing."""
    chance = Chance(51)
    dice = chance.dice
    told = []
    for at in range(many):
        some = []
        for side in ("give", "take", "bear")[:dice.choice((2, 3))]:
            wish = dice.choice((ANY, ANY, ANY, ANY, ("is", "rye"), ("not", ("by", "a")), chance.wish(3)))
            number = dice.choice((1, 2, 3, 10))
            one = offer(side, dice.choice("abcdef"), dice.choice(("bread",) * 9 + ("wood",)), wish, number,
                        dice.randint(1, number), 0, 9, dice.choice(((), ("rye",))), dice.choice(((), (("price", 7),))))
            some.append((one, dice.choice((number, dice.randint(1, number)))))
        told.append(some)
    return told


class SetTest(unittest.TestCase):
    def check(self, some, expected_part, expected_why):
        kept = copy.deepcopy(some)
        with self.subTest(some):
            for again in range(2):
                self.assertIs(int, type(part(some)))
                self.assertEqual(part(some), expected_part)
                self.assertEqual(repr(why_none(some)), repr(expected_why))
            self.assertTrue(expected_part == 0 or expected_why is None)
            self.assertIs(none_shown(some, expected_why), expected_why is not None)
            self.assertEqual(some, kept)

    def test_two_that_can_meet(self):
        for giving, taking in ((1, 1), (3, 9), (9, 3), (9, 9)):
            some = [(offer("give", "ann"), giving), (offer("take", "bob"), taking)]
            self.check(some, min(giving, taking), None)

    def test_three_that_can_meet(self):
        for lefts in itertools.product((1, 4, 9), repeat=3):
            some = [(offer(side, name), left) for side, name, left in zip(("give", "take", "bear"), "abc", lefts)]
            self.check(some, min(lefts), None)

    def test_the_greatest_amounts(self):
        greatest = 10 ** 6
        some = [(offer("give", "ann", many=greatest, least=greatest), greatest),
                (offer("take", "bob", many=greatest, least=greatest), greatest)]
        self.check(some, greatest, None)

    def test_wishes_that_let(self):
        giver = offer("give", "ann", wish=("by", "bob"), marks=("rye",), sizes=(("price", 7),))
        taker = offer("take", "bob", wish=("and", (("is", "rye"), ("most", "price", 7))))
        self.check([(giver, 9), (taker, 4)], 4, None)

    def test_nobody_has_to_let_its_own_card(self):
        giver = offer("give", "ann", wish=("not", ("by", "ann")))
        taker = offer("take", "bob", wish=("not", ("by", "bob")))
        bearer = offer("bear", "cat", wish=("not", ("by", "cat")))
        self.check([(giver, 9), (taker, 4)], 4, None)
        self.check([(giver, 9), (taker, 4), (bearer, 2)], 2, None)

    def test_kinds_unlike(self):
        for kinds in itertools.product(("bread", "wood"), repeat=3):
            some = [(offer(side, name, kind), 5) for side, name, kind in zip(("give", "take", "bear"), "abc", kinds)]
            for few in (some, some[:2]):
                alike = len(set(kinds[:len(few)])) == 1
                self.check(few, 5 if alike else 0, None if alike else ("kind",))

    def test_names_alike(self):
        for names in itertools.product("abc", repeat=3):
            some = [(offer(side, name), 5) for side, name in zip(("give", "take", "bear"), names)]
            for few in (some, some[:2]):
                unlike = len(set(names[:len(few)])) == len(few)
                self.check(few, 5 if unlike else 0, None if unlike else ("name",))

    def test_each_wish_in_the_way(self):
        names = "abc"
        for many in (2, 3):
            for i, j in itertools.permutations(range(many), 2):
                some = [(offer(side, name), 5) for side, name in zip(("give", "take", "bear"), names[:many])]
                some[i] = (put(some[i][0], 2, ("not", ("by", names[j]))), 5)
                self.check(some, 0, ("wish", i, j, (False, TRUE)))

    def test_the_least_places_of_several_wishes_in_the_way(self):
        sides = ("give", "take", "bear")
        for many in (2, 3):
            places = list(itertools.permutations(range(many), 2))
            for size in range(1, len(places) + 1):
                for chosen in itertools.combinations(places, size):
                    some = []
                    for i in range(many):
                        barred = [("by", "abc"[j]) for k, j in chosen if k == i]
                        wish = ("not", ("or", tuple(barred + [("by", "d")]))) if barred else ANY
                        some.append((offer(sides[i], "abc"[i], wish=wish), 5))
                    i, j = min(chosen)
                    self.check(some, 0, ("wish", i, j, reason(some[i][0][2], some[j][0][1])))

    def test_the_reason_is_the_one_that_reason_tells(self):
        wish = ("and", (ANY, ("is", "old"), ("by", "cat")))
        some = [(offer("give", "ann"), 5), (offer("take", "bob", wish=wish), 5)]
        self.check(some, 0, ("wish", 1, 0, (False, (1, FALSE))))

    def test_the_least_part_of_the_document(self):
        giver = offer("give", "ann", many=10, least=4)
        taker = offer("take", "bob", many=10, least=1)
        self.check([(giver, 10), (taker, 3)], 0, ("least", 0))
        self.check([(giver, 4), (taker, 3)], 0, ("least", 0))
        self.check([(giver, 3), (taker, 3)], 3, None)
        self.check([(giver, 10), (taker, 4)], 4, None)

    def test_least_parts_where_less_is_left(self):
        giver = offer("give", "ann", many=10, least=8)
        taker = offer("take", "bob", many=10, least=1)
        self.check([(giver, 2), (taker, 9)], 2, None)
        self.check([(giver, 2), (taker, 2)], 2, None)
        self.check([(giver, 2), (taker, 1)], 0, ("least", 0))
        both = offer("take", "bob", many=10, least=8)
        self.check([(giver, 2), (both, 9)], 0, ("least", 1))
        self.check([(giver, 9), (both, 2)], 0, ("least", 0))
        self.check([(giver, 2), (both, 2)], 2, None)
        self.check([(giver, 8), (both, 9)], 8, None)
        self.check([(giver, 7), (both, 9)], 0, ("least", 1))

    def test_all_small_leasts_and_lefts(self):
        for leasts in itertools.product((1, 2, 3), repeat=3):
            for lefts in itertools.product((1, 2, 3), repeat=3):
                some = [(offer(side, name, many=3, least=least), left)
                        for side, name, least, left in zip(("give", "take", "bear"), "abc", leasts, lefts)]
                for few in (some, some[:2]):
                    low = min(lefts[:len(few)])
                    way = [i for i in range(len(few)) if low < min(leasts[i], lefts[i])]
                    self.check(few, 0 if way else low, ("least", way[0]) if way else None)

    def test_several_things_at_once(self):
        bad = ("is", "old")
        some = [(offer("give", "ann", "bread", bad, many=9, least=9), 9), (offer("take", "ann", "wood", bad), 2)]
        self.check(some, 0, ("kind",))
        some = [some[0], (offer("take", "ann", "bread", bad), 2)]
        self.check(some, 0, ("name",))
        some = [some[0], (offer("take", "bob", "bread", bad), 2)]
        self.check(some, 0, ("wish", 0, 1, FALSE))
        some = [(offer("give", "ann", many=9, least=9), 9), some[1]]
        self.check(some, 0, ("wish", 1, 0, FALSE))
        some = [some[0], (offer("take", "bob"), 2)]
        self.check(some, 0, ("least", 0))
        some = [(offer("give", "ann"), 9), some[1]]
        self.check(some, 2, None)

    def test_sets_by_chance(self):
        seen = set()
        for some in sets_by_chance(600):
            ways = all_in_way(some)
            self.assertEqual(can_meet(some), ways == [])
            low = min(left for one, left in some)
            self.check(some, 0 if ways else low, ways[0] if ways else None)
            seen.add((len(some), ways[0][0] if ways else None))
        self.assertEqual(seen, set(itertools.product((2, 3), ("kind", "name", "wish", "least", None))))

    def test_by_name(self):
        some = [(offer("give", "ann"), 3), (offer("take", "bob"), 2)]
        self.assertEqual(part(some=some), 2)
        self.assertIsNone(why_none(some=some))


class ShownTest(unittest.TestCase):
    def tell(self, name, some, thing, truth):
        with self.subTest(name):
            self.assertIs(none_shown(some, thing), truth)
            self.assertIs(none_shown(some, thing), truth)

    def check(self, some, thing, truth):
        self.tell(f"{some!r} {thing!r}", some, thing, truth)

    def test_each_thing_that_is_so_and_no_other(self):
        for some in sets_by_chance(300):
            ways = all_in_way(some)
            for way in ways:
                self.check(some, way, True)
            self.check(some, ("kind",), ("kind",) in ways)
            self.check(some, ("name",), ("name",) in ways)
            for i in range(-4, 5):
                self.check(some, ("least", i), ("least", i) in ways)
                for j in range(-4, 5):
                    for thing in (FALSE, TRUE, (False, TRUE), (False, (0, FALSE)), None):
                        way = ("wish", i, j, thing)
                        right = i in range(len(some)) and j in range(len(some)) and way in ways
                        if right or not any(one[:3] == way[:3] for one in ways):
                            self.check(some, way, right)

    def several(self):
        """A set with all four in the way."""
        wish = ("and", (("is", "old"), ANY, ("by", "cat")))
        return [(offer("give", "ann", "bread", wish, many=9, least=9), 9), (offer("take", "bob", "wood"), 2),
                (offer("bear", "ann", "bread", many=9, least=4), 5)]

    def test_any_right_reason(self):
        some = self.several()
        for j in (1, 2):
            self.check(some, ("wish", 0, j, (False, (0, FALSE))), True)
            self.check(some, ("wish", 0, j, (False, (2, FALSE))), True)
            self.check(some, ("wish", 0, j, (False, (1, FALSE))), False)
            self.check(some, ("wish", 0, j, (False, (1, TRUE))), False)
            self.check(some, ("wish", 0, j, (False, (False, FALSE))), False)
            self.check(some, ("wish", 0, j, (True, (0, FALSE))), False)
            self.check(some, ("wish", 0, j, (0, (0, FALSE))), False)
            self.check(some, ("wish", 0, j, FALSE), False)

    def test_a_wish_that_lets(self):
        some = self.several()
        for i, j in ((1, 0), (1, 2), (2, 0), (2, 1)):
            self.check(some, ("wish", i, j, TRUE), False)
            self.check(some, ("wish", i, j, FALSE), False)

    def test_a_wish_that_does_not_let_its_own_card(self):
        some = [(offer("give", "ann", wish=("not", ("by", "ann"))), 2), (offer("take", "bob", wish=("by", "ann")), 2)]
        self.check(some, ("wish", 0, 0, (False, TRUE)), False)
        self.check(some, ("wish", 1, 1, FALSE), False)

    def test_any_right_place(self):
        some = self.several()
        self.check(some, ("least", 0), True)
        self.check(some, ("least", 1), False)
        self.check(some, ("least", 2), True)
        self.check(some, ("kind",), True)
        self.check(some, ("name",), True)

    def test_places_that_are_none(self):
        three, right = self.several(), (False, (0, FALSE))
        two = [three[0], (offer("take", "bob"), 2)]
        for some in (three, two):
            for place in [-1, -2, -3, len(some), 3, 4, 10 ** 39, "0", (0,), 0.0, 2.0] + odd_things():
                self.check(some, ("least", place), False)
                self.check(some, ("wish", place, 1, right), False)
                self.check(some, ("wish", 0, place, right), False)
        self.check(two, ("least", 0), True)
        self.check(two, ("wish", 0, 1, right), True)
        self.check(two, ("wish", 0, 0, right), False)
        self.check(two, ("least", False), False)
        self.check(two, ("wish", False, 1, right), False)
        self.check(two, ("wish", 0, True, right), False)

    def test_other_words_and_forms(self):
        some, right = self.several(), (False, (0, FALSE))
        for rest in ((), (0,), (2,), (0, 1), (0, 1, right), (0, right), (right,), (0, 1, right, None), (0, 1) + right):
            for word in ["kind", "name", "wish", "least", "most", "", "Kind", "kinds", "give", b"kind", ("kind",), 0]:
                truth = (word in ("kind", "name") and rest == ()) or (word == "least" and rest in ((0,), (2,)))
                truth = truth or (word == "wish" and rest == (0, 1, right))
                self.check(some, (word,) + rest, truth)
                self.check(some, [word] + list(rest), False)
            for word in odd_things():
                self.check(some, (word,) + rest, False)

    def test_other_kinds(self):
        some = self.several()
        for thing in odd_things() + ["kind", "name", ["kind"], ["least", 0], {"kind"}, {"kind": 1}, 0, 1, (("kind",),)]:
            self.check(some, thing, False)
        for thing in odd_things() + [0, 1, "reason", [False, [0, FALSE]], (False, [0, FALSE]), [False, (0, FALSE)]]:
            self.check(some, ("wish", 0, 1, thing), False)

    def test_deep_things(self):
        some = self.several()
        for name, deep in deep_things():
            for at, thing in enumerate((
                deep, (deep,), (deep, 0), ("least", deep), ("wish", deep, 1, (False, (0, FALSE))), (deep, 0, 1, FALSE),
                ("wish", 0, deep, (False, (0, FALSE))), ("wish", 0, 1, deep), ("wish", 0, 1, (False, deep)),
                ("wish", 0, 1, (False, (0, deep))), ("wish", 0, 1, (False, (deep, FALSE))), (deep, deep, deep, deep),
                ("wish", 0, 1, (deep, (0, FALSE))), ("wish", 0, 1, (False, (0, (False, deep)))),
            )):
                self.tell(f"{name} {at}", some, thing, False)

    def test_what_is_handed_in_stays(self):
        some, thing = self.several(), ["wish", 0, 1, [False, [0, [False, None]]]]
        kept = copy.deepcopy((some, thing))
        none_shown(some, thing)
        none_shown(some, tuple(thing))
        self.assertEqual((some, thing), kept)

    def test_by_name(self):
        self.assertIs(none_shown(some=self.several(), thing=("kind",)), True)
        self.assertIs(none_shown(thing=None, some=self.several()), False)


if __name__ == "__main__":
    unittest.main()
