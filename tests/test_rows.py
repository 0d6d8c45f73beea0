"""Rows and meetings: 6.1 to 6.4, and what 0.2 says of them."""

import copy
import functools
import itertools
import unittest

from matepoint.offers import none_shown, part, why_none
from matepoint.rows import are_borne, first_meeting, is_rule, rest_holds, rest_paper, row_of, sets_of
from tests.things import SIX_WORDS, Chance, deep_things, odd_things, offer

ANY = ("any",)
FALSE = (False, None)
SIDES = ("give", "take", "bear")
RULE_WORDS = ("heavy", "great", "small", "soon")
ALL_RULES = [rule for many in range(4) for rule in itertools.permutations(RULE_WORDS, many)]


class RuleTest(unittest.TestCase):
    def check(self, tell, thing, truth, name=None):
        with self.subTest(name or repr(thing)):
            self.assertIs(tell(thing), truth)
            self.assertIs(tell(thing), truth)

    def test_rules_of_none_to_four_words(self):
        self.assertEqual(len(ALL_RULES), 1 + 4 + 12 + 24)
        for rule in ALL_RULES:
            self.check(is_rule, rule, True)
        for words in itertools.permutations(RULE_WORDS):
            self.check(is_rule, words, False)

    def test_rules_with_a_word_twice(self):
        for words in itertools.product(RULE_WORDS, repeat=3):
            self.check(is_rule, words, len(set(words)) == 3)
        for word in RULE_WORDS:
            self.check(is_rule, (word, word), False)

    def test_rules_of_other_words(self):
        others = ["", "Heavy", "heavy ", "heav", "light", "late", "rye", "any", b"heavy", 0, 1, ("heavy",), ["heavy"]]
        for word in others + odd_things():
            self.check(is_rule, (word,), False)
            self.check(is_rule, ("soon", word), False)
            self.check(is_rule, (word, "great", "soon"), False)

    def test_kinds_borne_of_none_to_five_words(self):
        words = ("a", "abcdefgh", "bread", "heavy", "wood")
        for many in range(6):
            for kinds in itertools.permutations(words, many):
                self.check(are_borne, kinds, many <= 4)

    def test_kinds_borne_with_a_word_twice(self):
        for kinds in itertools.product(("a", "b", "c"), repeat=4):
            self.check(are_borne, kinds, False)
        for kinds in itertools.product(("a", "b", "c"), repeat=3):
            self.check(are_borne, kinds, len(set(kinds)) == 3)
        self.check(are_borne, ("bread", "bread"), False)

    def test_kinds_borne_of_other_words(self):
        others = list(SIX_WORDS) + ["", "Bread", "abcdefghi", "a b", "bread\n", "a1", 0, 1, ("bread",), ["bread"]]
        for word in others + odd_things():
            self.check(are_borne, (word,), False)
            self.check(are_borne, ("wood", word), False)
            self.check(are_borne, (word, "a", "b", "c"), False)

    def test_other_kinds(self):
        things = [thing for thing in odd_things() if not isinstance(thing, tuple) or thing]
        for thing in things + ["heavy", "a", "", ["heavy"], {"heavy"}, {"heavy": 1}, 0, 7, (("heavy",),), [("heavy",)]]:
            self.check(is_rule, thing, False)
            self.check(are_borne, thing, False)

    def test_deep_things(self):
        for name, deep in deep_things():
            for thing in (deep, (deep,), ("soon", deep), (deep, deep)):
                self.check(is_rule, thing, False, name)
                self.check(are_borne, thing, False, name)

    def test_what_is_handed_in_stays(self):
        for thing in (["heavy", "soon"], (["heavy"], "soon"), ["b", "a", "a"]):
            kept = copy.deepcopy(thing)
            is_rule(thing)
            are_borne(thing)
            self.assertEqual(thing, kept)

    def test_by_name(self):
        self.assertIs(is_rule(thing=("soon",)), True)
        self.assertIs(are_borne(thing=("bread",)), True)


def ahead(rule, one, other):
    """Below 0 where the one stands ahead of the other by the rule, by the words of 6.1."""
    for word in rule:
        if word == "heavy" and one[1][5] != other[1][5]:
            return -1 if one[1][5] > other[1][5] else 1
        if word == "great" and one[2] != other[2]:
            return -1 if one[2] > other[2] else 1
        if word == "small" and one[2] != other[2]:
            return -1 if one[2] < other[2] else 1
        if word == "soon" and one[1][6] != other[1][6]:
            return -1 if one[1][6] < other[1][6] else 1
    return -1 if one[0] < other[0] else 1


def expected_row(rule, waiters):
    return [waiter[0] for waiter in sorted(waiters, key=functools.cmp_to_key(lambda a, b: ahead(rule, a, b)))]


def expected_sets(borne, waiters):
    """All sets, out of all pairs and triples of waiters."""
    told = []
    for many in (2, 3):
        for chosen in itertools.permutations(waiters, many):
            sides = tuple(one[1][0] for one in chosen)
            kinds = {one[1][1][1] for one in chosen}
            if sides == SIDES[:many] and len(kinds) == 1 and (kinds <= set(borne)) == (many == 3):
                told.append(tuple(one[0] for one in chosen))
    return sorted(told)


def set_of(waiters, numbers):
    """The set of the waiters of those numbers."""
    return [one[1:] for number in numbers for one in waiters if one[0] == number]


def expected_meeting(rule, borne, waiters):
    row = expected_row(rule, waiters)
    good = [numbers for numbers in expected_sets(borne, waiters) if part(set_of(waiters, numbers)) > 0]
    if not good:
        return None
    numbers = min(good, key=lambda numbers: sorted(row.index(number) for number in numbers))
    return (numbers, part(set_of(waiters, numbers)))


def waiters_by_chance(many, seed):
    """Lists of waiters in any order, of few kinds, weights, tills and amounts, so that many are alike."""
    chance = Chance(seed)
    dice = chance.dice
    told = []
    for at in range(many):
        numbers = dice.sample(range(40), dice.randint(0, 12))
        waiters = []
        for number in numbers:
            amount = dice.choice((1, 2, 5))
            wishes = (ANY, ANY, ANY, ("is", "rye"), ("not", ("is", "rye")), ("not", ("by", "b")), chance.wish(2))
            side, name, kind = dice.choice(SIDES), dice.choice("abcdefgh"), dice.choice(("bread", "wood"))
            one = offer(side, name, kind, dice.choice(wishes), amount, dice.randint(1, amount), dice.choice((0, 3)),
                        dice.choice((8, 9)), dice.choice(((), ("rye",))), dice.choice(((), (("price", 7),))))
            waiters.append((number, one, dice.choice((amount, dice.randint(1, amount)))))
        told.append(waiters)
    return told


BORNES = ((), ("bread",), ("wood",), ("wood", "bread"), ("stone", "glass"), ("a", "b", "c", "bread"))


class RowTest(unittest.TestCase):
    def check(self, rule, waiters, expected):
        kept = copy.deepcopy(waiters)
        with self.subTest((rule, waiters)):
            first, second = row_of(rule, waiters), row_of(rule, waiters)
            self.assertEqual((first, second), (expected, expected))
            self.assertIs(type(first), list)
            self.assertIsNot(first, second)
            self.assertEqual(waiters, kept)

    def test_by_each_word(self):
        waiters = [
            (5, offer("give", "a", weight=3, till=50), 4),
            (2, offer("take", "b", weight=7, till=90), 4),
            (9, offer("bear", "c", weight=3, till=10), 8),
            (0, offer("give", "d", weight=0, till=50), 1),
        ]
        self.check((), waiters, [0, 2, 5, 9])
        self.check(("heavy",), waiters, [2, 5, 9, 0])
        self.check(("great",), waiters, [9, 2, 5, 0])
        self.check(("small",), waiters, [0, 2, 5, 9])
        self.check(("soon",), waiters, [9, 0, 5, 2])
        self.check(("heavy", "soon"), waiters, [2, 9, 5, 0])
        self.check(("heavy", "great"), waiters, [2, 9, 5, 0])
        self.check(("heavy", "small"), waiters, [2, 5, 9, 0])
        self.check(("soon", "heavy"), waiters, [9, 5, 0, 2])
        self.check(("soon", "small"), waiters, [9, 0, 5, 2])
        self.check(("great", "soon"), waiters, [9, 5, 2, 0])
        self.check(("great", "heavy", "soon"), waiters, [9, 2, 5, 0])

    def test_by_what_is_left_not_by_how_many_came(self):
        waiters = [(0, offer("give", "a", many=90), 2), (1, offer("take", "b", many=5), 5)]
        self.check(("great",), waiters, [1, 0])
        self.check(("small",), waiters, [0, 1])

    def test_by_the_number_where_nothing_tells_apart(self):
        for rule in ALL_RULES:
            for numbers in itertools.permutations((0, 3, 7, 12)):
                self.check(rule, [(number, offer("give", "a"), 4) for number in numbers], [0, 3, 7, 12])

    def test_few_waiters(self):
        for rule in ALL_RULES:
            self.check(rule, [], [])
            self.check(rule, [(7, offer("bear", "a"), 1)], [7])

    def test_great_and_small_together(self):
        waiters = [(number, offer("give", "a"), left) for number, left in enumerate((3, 1, 2, 3))]
        self.check(("great", "small"), waiters, [0, 3, 2, 1])
        self.check(("small", "great"), waiters, [1, 2, 0, 3])

    def test_in_any_order_and_by_any_rule(self):
        for waiters in waiters_by_chance(60, 61):
            for rule in ALL_RULES:
                self.check(rule, waiters, expected_row(rule, waiters))
                self.check(rule, waiters[::-1], expected_row(rule, waiters))

    def test_thirty_waiters(self):
        waiters = [(number, offer("give", "a", weight=number % 4, till=number % 3), 1 + number % 5)
                   for number in range(30)]
        for rule in ALL_RULES:
            self.check(rule, waiters, expected_row(rule, waiters))

    def test_the_list_is_the_askers_own(self):
        waiters = [(1, offer("give", "a"), 1), (0, offer("take", "b"), 1)]
        row_of((), waiters).append(7)
        self.check((), waiters, [0, 1])

    def test_by_name(self):
        self.assertEqual(row_of(rule=(), waiters=[(4, offer("give", "a"), 1)]), [4])


class SetsTest(unittest.TestCase):
    def check(self, borne, waiters, expected):
        kept = copy.deepcopy(waiters)
        with self.subTest((borne, waiters)):
            first, second = sets_of(borne, waiters), sets_of(borne, waiters)
            self.assertEqual((repr(first), repr(second)), (repr(expected), repr(expected)))
            self.assertIsNot(first, second)
            self.assertEqual(waiters, kept)

    def test_with_and_without_kinds_borne(self):
        waiters = [
            (4, offer("give", "a"), 1), (3, offer("take", "b"), 1), (2, offer("bear", "c"), 1),
            (0, offer("give", "e", "wood"), 1), (6, offer("take", "f", "wood"), 1), (5, offer("bear", "g", "wood"), 1),
            (7, offer("bear", "h"), 1), (8, offer("give", "i"), 1), (1, offer("take", "d"), 1),
        ]
        self.check((), waiters, [(0, 6), (4, 1), (4, 3), (8, 1), (8, 3)])
        bread = [(4, 1, 2), (4, 1, 7), (4, 3, 2), (4, 3, 7), (8, 1, 2), (8, 1, 7), (8, 3, 2), (8, 3, 7)]
        self.check(("bread",), waiters, [(0, 6)] + bread)
        self.check(("wood",), waiters, [(0, 6, 5), (4, 1), (4, 3), (8, 1), (8, 3)])
        self.check(("wood", "bread"), waiters, [(0, 6, 5)] + bread)
        self.check(("bread", "stone", "wood"), waiters, [(0, 6, 5)] + bread)
        self.check(("stone",), waiters, [(0, 6), (4, 1), (4, 3), (8, 1), (8, 3)])

    def test_where_a_side_lacks(self):
        sides = {"give": 0, "take": 1, "bear": 2}
        for many in range(4):
            for chosen in itertools.combinations(sides, many):
                waiters = [(sides[side], offer(side, side), 1) for side in chosen]
                self.check((), waiters, [(0, 1)] if {"give", "take"} <= set(chosen) else [])
                self.check(("bread",), waiters, [(0, 1, 2)] if many == 3 else [])

    def test_whether_they_can_meet_or_not(self):
        waiters = [(0, offer("give", "a", wish=("by", "z")), 1), (1, offer("take", "a", least=9), 9)]
        self.check((), waiters, [(0, 1)])

    def test_by_chance(self):
        for waiters in waiters_by_chance(100, 62):
            for borne in BORNES:
                self.check(borne, waiters, expected_sets(borne, waiters))
                self.check(borne, waiters[::-1], expected_sets(borne, waiters))

    def test_thirty_waiters(self):
        waiters = [(number, offer(SIDES[number % 3], "a"), 1) for number in range(30)]
        self.check((), waiters, [(a, b) for a in range(0, 30, 3) for b in range(1, 30, 3)])
        self.check(("bread",), waiters, list(itertools.product(range(0, 30, 3), range(1, 30, 3), range(2, 30, 3))))

    def test_the_list_is_the_askers_own(self):
        waiters = [(1, offer("give", "a"), 1), (0, offer("take", "b"), 1)]
        sets_of((), waiters).append((7, 8))
        self.check((), waiters, [(1, 0)])

    def test_by_name(self):
        waiters = [(1, offer("give", "a"), 1), (0, offer("take", "b"), 1)]
        self.assertEqual(sets_of(borne=(), waiters=waiters), [(1, 0)])


class MeetingTest(unittest.TestCase):
    def check(self, rule, borne, waiters, expected):
        kept = copy.deepcopy(waiters)
        with self.subTest((rule, borne, waiters)):
            for again in range(2):
                self.assertEqual(repr(first_meeting(rule, borne, waiters)), repr(expected))
            self.assertEqual(waiters, kept)

    def test_none(self):
        self.check((), (), [], None)
        self.check((), (), [(0, offer("give", "a"), 1), (1, offer("give", "b"), 1)], None)
        self.check((), (), [(0, offer("give", "a"), 1), (1, offer("take", "b", "wood"), 1)], None)
        self.check((), (), [(0, offer("give", "a"), 1), (1, offer("take", "a"), 1)], None)
        self.check((), (), [(0, offer("give", "a", wish=("by", "z")), 1), (1, offer("take", "b"), 1)], None)
        self.check((), ("bread",), [(0, offer("give", "a"), 1), (1, offer("take", "b"), 1)], None)

    def test_by_the_numbers(self):
        waiters = [(3, offer("give", "a"), 4), (1, offer("take", "b"), 3), (2, offer("take", "c"), 9),
                   (0, offer("give", "d"), 2)]
        self.check((), (), waiters, ((0, 1), 2))
        self.check((), (), waiters[:3], ((3, 1), 3))
        self.check((), (), waiters[:1] + waiters[2:3], ((3, 2), 4))

    def test_the_first_in_the_row_meets_whoever_fits_it(self):
        # the one that is ahead meets the last one: others would meet behind it
        waiters = [(0, offer("give", "a", wish=("by", "f")), 4), (1, offer("take", "b"), 3), (2, offer("give", "c"), 9),
                   (3, offer("take", "f"), 2)]
        self.check((), (), waiters, ((0, 3), 2))
        self.check(("great",), (), waiters, ((2, 1), 3))
        self.check(("small",), (), waiters, ((0, 3), 2))

    def test_places_rise_whoever_gives(self):
        # by places: (1, 2) behind (0, 3), though the giver's place in the one is lesser than in the other
        waiters = [(0, offer("take", "a", wish=("by", "d")), 5), (1, offer("give", "b"), 5), (2, offer("take", "c"), 5),
                   (3, offer("give", "d"), 5)]
        self.check((), (), waiters, ((3, 0), 5))

    def test_by_each_word_of_a_rule(self):
        waiters = [(0, offer("give", "a", weight=1, till=50), 5), (1, offer("take", "b", weight=1, till=60), 4),
                   (2, offer("take", "c", weight=2, till=70), 3), (3, offer("take", "d", weight=0, till=40), 6)]
        self.check((), (), waiters, ((0, 1), 4))
        self.check(("heavy",), (), waiters, ((0, 2), 3))
        self.check(("great",), (), waiters, ((0, 3), 5))
        self.check(("small",), (), waiters, ((0, 2), 3))
        self.check(("soon",), (), waiters, ((0, 3), 5))

    def test_with_bearers(self):
        waiters = [(0, offer("bear", "a"), 2), (1, offer("give", "b"), 5), (2, offer("take", "c"), 5),
                   (3, offer("bear", "d"), 9)]
        self.check((), ("bread",), waiters, ((1, 2, 0), 2))
        self.check(("great",), ("bread",), waiters, ((1, 2, 3), 5))
        self.check((), (), waiters, ((1, 2), 5))
        self.check((), ("wood",), waiters, ((1, 2), 5))
        bearer = (0, offer("bear", "a", wish=("not", ("by", "c"))), 2)
        self.check((), ("bread",), [bearer] + waiters[1:], ((1, 2, 3), 5))
        self.check((), ("bread",), [bearer] + waiters[1:3], None)

    def test_two_kinds(self):
        waiters = [(0, offer("give", "a", "wood"), 2), (1, offer("take", "b"), 5), (2, offer("give", "c"), 5),
                   (3, offer("take", "d", "wood"), 9), (4, offer("bear", "e", "wood"), 1)]
        self.check((), (), waiters, ((0, 3), 2))
        self.check((), ("wood",), waiters, ((0, 3, 4), 1))
        self.check((), ("bread",), waiters, ((0, 3), 2))
        self.check(("great",), (), waiters, ((0, 3), 2))
        self.check(("great",), (), waiters[:3], ((2, 1), 5))

    def test_least_parts(self):
        waiters = [(0, offer("give", "a", many=9, least=5), 9), (1, offer("take", "b"), 4), (2, offer("take", "c"), 5)]
        self.check((), (), waiters, ((0, 2), 5))
        self.check((), (), waiters[:2], None)
        self.check((), (), [(0, waiters[0][1], 4)] + waiters[1:], ((0, 1), 4))

    def test_by_chance(self):
        told = []
        for waiters in waiters_by_chance(150, 63):
            for rule, borne in itertools.product(ALL_RULES[::5], BORNES[:4]):
                expected = expected_meeting(rule, borne, waiters)
                self.check(rule, borne, waiters, expected)
                told.append(expected and len(expected[0]))
        self.assertGreater(min(told.count(None), told.count(2), told.count(3)), 200)

    def test_thirty_waiters(self):
        waiters = [(number, offer(SIDES[number % 3], "abc"[number % 3], many=40, weight=number), number + 1)
                   for number in range(30)]
        self.check((), ("bread",), waiters, ((0, 1, 2), 1))
        self.check(("heavy",), ("bread",), waiters, ((27, 28, 29), 28))
        self.check(("great",), (), waiters, ((27, 28), 28))

    def test_by_name(self):
        waiters = [(1, offer("give", "a"), 1), (0, offer("take", "b"), 1)]
        self.assertEqual(first_meeting(rule=(), borne=(), waiters=waiters), ((1, 0), 1))


class PaperTest(unittest.TestCase):
    def tell(self, name, borne, waiters, thing, truth):
        with self.subTest(name):
            self.assertIs(rest_holds(borne, waiters, thing), truth)
            self.assertIs(rest_holds(borne, waiters, thing), truth)

    def hold(self, borne, waiters, thing, truth):
        self.tell(repr(thing), borne, waiters, thing, truth)

    def check(self, borne, waiters, expected):
        kept = copy.deepcopy(waiters)
        with self.subTest((borne, waiters)):
            first, second = rest_paper(borne, waiters), rest_paper(borne, waiters)
            self.assertEqual(first, second)
            self.assertEqual(first, expected)
            if expected is not None:
                self.assertEqual({key: repr(why) for key, why in first.items()},
                                 {key: repr(why) for key, why in expected.items()})
                self.assertIs(type(first), dict)
                self.assertIsNot(first, second)
            self.assertIs(rest_holds(borne, waiters, first), expected is not None)
            self.assertEqual(waiters, kept)

    def apart(self):
        """Waiters with something in the way of each set, and the paper of it."""
        waiters = [
            (0, offer("give", "a", wish=("and", (("is", "old"), ("by", "z")))), 1), (3, offer("take", "b"), 1),
            (2, offer("take", "a"), 1), (1, offer("give", "c", many=9, least=5), 9), (5, offer("bear", "d"), 1),
            (4, offer("take", "e", "wood"), 1),
        ]
        paper = {
            (0, 2): ("name",), (0, 3): ("wish", 0, 1, (False, (0, FALSE))), (1, 2): ("least", 0), (1, 3): ("least", 0),
        }
        return waiters, paper

    def test_a_dict_of_nothing(self):
        self.check((), [], {})
        self.check((), [(0, offer("give", "a"), 1), (1, offer("give", "b"), 1)], {})
        self.check((), [(0, offer("give", "a"), 1), (1, offer("take", "b", "wood"), 1)], {})
        self.check(("bread",), [(0, offer("give", "a"), 1), (1, offer("take", "b"), 1)], {})
        for thing in (None, [], (), set(), "", 0, False, {(0, 1): ("kind",)}, {(): ("kind",)}, {None: None}):
            self.hold((), [], thing, False)

    def test_a_dict(self):
        waiters, paper = self.apart()
        self.check((), waiters, paper)
        self.check((), waiters[::-1], paper)

    def test_a_dict_with_bearers(self):
        waiters = self.apart()[0]
        self.check(("bread",), waiters, {
            (0, 2, 5): ("name",), (0, 3, 5): ("wish", 0, 1, (False, (0, FALSE))), (1, 2, 5): ("least", 0),
            (1, 3, 5): ("least", 0),
        })

    def test_none(self):
        self.check((), [(0, offer("give", "a"), 1), (1, offer("take", "b"), 1)], None)
        waiters = self.apart()[0]
        self.check((), waiters + [(9, offer("take", "z", many=9), 9)], None)
        self.check((), waiters + [(9, offer("give", "y", "wood"), 9)], None)
        self.check(("wood",), waiters + [(9, offer("give", "y", "wood"), 9)], self.apart()[1])

    def test_where_some_can_meet_nothing_holds(self):
        waiters = [(0, offer("give", "a"), 1), (1, offer("take", "b"), 1)]
        for thing in (None, {}, {(0, 1): None}, {(0, 1): ("kind",)}, {(0, 1): ("name",)}, {(0, 1): ("least", 0)},
                      {(0, 1): ("wish", 0, 1, FALSE)}, {(0, 1): ("wish", 0, 1, (True, None))}):
            self.hold((), waiters, thing, False)

    def test_any_shown_thing(self):
        waiters, paper = self.apart()
        for k in (0, 1):
            way = ("wish", 0, 1, (False, (k, FALSE)))
            self.hold((), waiters, paper | {(0, 2): way}, True)
            self.hold((), waiters, paper | {(0, 3): way}, True)
            self.hold((), waiters, paper | {(0, 2): way, (0, 3): way}, True)
        self.hold((), waiters, dict(sorted(paper.items(), reverse=True)), True)

    def test_a_set_too_few_or_too_many(self):
        waiters, paper = self.apart()
        self.hold((), waiters, {}, False)
        for numbers in paper:
            self.hold((), waiters, {key: way for key, way in paper.items() if key != numbers}, False)
        for numbers in ((0, 4), (0, 5), (2, 0), (1, 2, 5), (0,), (), (7, 8), (0, 2, 3), (-1, 2), (0, 2, 2)):
            for way in (("kind",), ("name",), ("least", 0), None):
                self.hold((), waiters, paper | {numbers: way}, False)

    def test_another_key(self):
        waiters, paper = self.apart()
        rest = {numbers: way for numbers, way in paper.items() if numbers != (0, 2)}
        for key in (None, "", "02", 0, 7, b"02", frozenset((0, 2)), (0, "2"), ("0", "2"), (0, 2, None), ((0, 2),),
                    (None, None), (0, (2,)), 0.5, ..., object(), (object(), 2), "a", ("a", "b")):
            self.hold((), waiters, rest | {key: ("name",)}, False)
            self.hold((), waiters, paper | {key: ("name",)}, False)
        for key in ((0.0, 2), (0, 2.0)):
            self.hold((), waiters, rest | {key: ("name",)}, False)

    def test_something_that_shows_nothing(self):
        waiters, paper = self.apart()
        for numbers in paper:
            for thing in odd_things() + [
                ("kind",), ("least", 1), ("least", False), ("wish", 1, 0, FALSE), ["name"], "name", 0,
                ("wish", 0, 1, FALSE), ("wish", 0, 1, (False, (True, FALSE))),
            ]:
                self.hold((), waiters, paper | {numbers: thing}, False)

    def test_another_kind(self):
        waiters, paper = self.apart()
        for thing in odd_things() + [list(paper), list(paper.items()), tuple(paper.items()), set(paper), "paper", 7,
                                     [paper], (paper,)]:
            if thing != {}:
                self.hold((), waiters, thing, False)
                self.hold((), [], thing, False)

    def test_deep_things(self):
        waiters, paper = self.apart()
        for name, deep in deep_things():
            self.tell(name, (), waiters, deep, False)
            for numbers in paper:
                for thing in (deep, ("least", deep), ("wish", 0, 1, (False, deep)), (deep,)):
                    self.tell(name, (), waiters, paper | {numbers: thing}, False)

    def test_the_paper_of_others(self):
        waiters, paper = self.apart()
        self.hold(("bread",), waiters, paper, False)
        self.hold((), waiters[1:], paper, False)
        self.hold((), waiters + [(6, offer("take", "y", wish=("by", "q")), 1)], paper, False)

    def test_by_chance(self):
        told = []
        for waiters in waiters_by_chance(200, 64):
            for borne in BORNES[:4]:
                ways = {numbers: why_none(set_of(waiters, numbers)) for numbers in expected_sets(borne, waiters)}
                self.check(borne, waiters, None if None in ways.values() else ways)
                self.assertEqual(first_meeting((), borne, waiters) is None, None not in ways.values())
                told.append((None in ways.values()) + bool(ways))
                for numbers, thing in itertools.product(ways, (("kind",), ("name",), ("least", 1))):
                    other = ways | {numbers: thing}
                    self.hold(borne, waiters, other, all(none_shown(set_of(waiters, key), other[key]) for key in other))
        self.assertGreater(min(told.count(0), told.count(1), told.count(2)), 100)

    def test_the_dict_is_the_askers_own(self):
        waiters, paper = self.apart()
        rest_paper((), waiters).clear()
        self.check((), waiters, paper)

    def test_what_is_handed_in_stays(self):
        waiters, paper = self.apart()
        thing = paper | {(1, 3): ["least", [0]], (7, 7): {}}
        kept = copy.deepcopy(thing)
        rest_holds((), waiters, thing)
        self.assertEqual(thing, kept)
        self.assertEqual(list(thing), list(kept))
        self.assertEqual(waiters, self.apart()[0])

    def test_by_name(self):
        waiters, paper = self.apart()
        self.assertEqual(rest_paper(borne=(), waiters=waiters), paper)
        self.assertIs(rest_holds(borne=(), waiters=waiters, thing=paper), True)


if __name__ == "__main__":
    unittest.main()
