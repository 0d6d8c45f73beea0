"""Wishes and the cards that they let: 2.1, 2.2, and what 0.2 says of them."""

import copy
import itertools
import unittest

from matepoint.wishes import is_wish, lets
from tests.things import ANN, SIX_WORDS, deep_things, odd_things, tower

ANY = ("any",)
PLAIN = (ANY, ("is", "rye"), ("by", "ann"), ("least", "price", 7), ("most", "price", 7))
BAD_WORDS = list(SIX_WORDS) + ["", "Rye", "a b", "rye ", "abcdefghi", "a1", 7, 0, ("rye",)]
BAD_NUMBERS = [-1, 10 ** 9 + 1, 10 ** 39, "7", "", (7,), 7.0]


def put_not(wish):
    return ("not", wish)


def put_and(wish):
    return ("and", (wish, ANY))


def put_and_last(wish):
    return ("and", (ANY, ANY, wish))


def put_or(wish):
    return ("or", (ANY, wish))


def put_or_first(wish):
    return ("or", (wish, ANY, ANY))


MAKERS = (put_not, put_and, put_and_last, put_or, put_or_first)


def full_tree(word, width, deep):
    """A tree with that many below each but the last row."""
    if deep == 1:
        return ANY
    return (word, (full_tree(word, width, deep - 1),) * width)


def count_parts(wish):
    """The parts of a wish, by recursion and without a limit."""
    if wish[0] == "not":
        return 1 + count_parts(wish[1])
    if wish[0] in ("and", "or"):
        return 1 + sum(count_parts(one) for one in wish[1])
    return 1


class WishTest(unittest.TestCase):
    def tell(self, name, thing, truth):
        with self.subTest(name):
            self.assertIs(is_wish(thing), truth)
            self.assertIs(is_wish(thing), truth)

    def check(self, thing, truth):
        self.tell(repr(thing), thing, truth)

    def check_at_any_depth(self, thing, truth):
        """The thing alone, and in one to four wishes around it."""
        self.check(thing, truth)
        for make in MAKERS:
            for times in range(1, 5):
                self.tell(f"{make.__name__} {times} {thing!r}", tower(make, times, thing), truth)

    def test_the_plain_forms(self):
        for wish in PLAIN:
            self.check_at_any_depth(wish, True)
        for word in ("a", "least", "most", "abcdefgh", "isle"):
            for wish in (("is", word), ("by", word), ("least", word, 0), ("most", word, 0)):
                self.check(wish, True)

    def test_edges_of_numbers(self):
        for number in (0, 1, 10 ** 9):
            self.check(("least", "price", number), True)
            self.check(("most", "price", number), True)

    def test_nots(self):
        for wish in PLAIN:
            self.check(("not", wish), True)
            self.check(("not", ("not", wish)), True)

    def test_ands_and_ors_of_two_to_six(self):
        for word in ("and", "or"):
            for many in range(2, 7):
                self.check((word, (PLAIN + PLAIN)[:many]), True)
                self.check((word, (ANY,) * many), True)

    def test_ands_and_ors_of_none_one_and_seven(self):
        for word in ("and", "or"):
            for many in (0, 1, 7, 8, 10, 39, 40):
                self.check_at_any_depth((word, (ANY,) * many), False)

    def test_six_deep_and_seven(self):
        for make in MAKERS:
            for times in range(9):
                self.tell(f"{make.__name__} {times}", tower(make, times), times <= 5)

    def test_deep_in_one_part_alone(self):
        for times in (4, 5):
            deep = tower(put_not, times)
            for at in range(6):
                wishes = [ANY] * 6
                wishes[at] = deep
                for word in ("and", "or"):
                    self.check((word, tuple(wishes)), times == 4)

    def check_parts(self, wish, parts):
        self.assertEqual(count_parts(wish), parts)
        self.check(wish, parts <= 40)

    def test_forty_parts_and_forty_one(self):
        for last in range(2, 7):
            wishes = tuple(("or", (ANY,) * many) for many in (6, 6, 6, 6, 6, last))
            for word in ("and", "or"):
                self.check_parts((word, wishes), 37 + last)

    def test_forty_parts_and_forty_one_by_a_not(self):
        wishes = tuple(("or", (ANY,) * many) for many in (6, 6, 6, 6, 6, 2))
        for word in ("and", "or"):
            self.check_parts(("not", (word, wishes)), 40)
            self.check_parts(("not", ("not", (word, wishes))), 41)

    def test_forty_parts_and_forty_one_by_the_deepest(self):
        wide = ("and", (ANY,) * 6)
        for nots in (1, 2, 3, 4):
            self.check_parts(("or", (wide,) * 5 + (tower(put_not, nots),)), 37 + nots)

    def test_forty_parts_and_forty_one_at_six_deep(self):
        thin, wide = tower(put_not, 4), ("and", (ANY,) * 6)
        for many in range(2, 7):
            last = tower(put_not, 3, ("or", (ANY,) * many))
            self.check_parts(("or", (thin, thin, wide, wide, wide, last)), 36 + many)

    def test_a_name_or_mark_that_is_no_word(self):
        for thing in BAD_WORDS + odd_things():
            self.check_at_any_depth(("is", thing), False)
            self.check_at_any_depth(("by", thing), False)

    def test_a_size_that_is_no_word(self):
        for thing in BAD_WORDS + odd_things():
            self.check_at_any_depth(("least", thing, 7), False)
            self.check_at_any_depth(("most", thing, 7), False)

    def test_a_number_that_is_none(self):
        for thing in BAD_NUMBERS + odd_things():
            self.check_at_any_depth(("least", "price", thing), False)
            self.check_at_any_depth(("most", "price", thing), False)

    def test_a_part_that_is_no_wish(self):
        for thing in odd_things() + ["any", "is rye", 7, ("rye",), ["any"], ["is", "rye"], ANN]:
            self.check_at_any_depth(thing, False)
            for at in range(6):
                for word in ("and", "or"):
                    self.check((word, (ANY,) * at + (thing,) + (ANY,) * (5 - at)), False)

    def test_ands_and_ors_of_no_tuple(self):
        for word in ("and", "or"):
            for thing in odd_things() + [[ANY, ANY], {ANY: ANY, ("is", "a"): ANY}, "any", "aa", 2, ANY, ("is", "rye")]:
                self.check_at_any_depth((word, thing), False)

    def test_an_unknown_first_word(self):
        words = ["", "Any", "ANY", " any", "any ", "all", "nor", "xor", "if", "rye", b"any", b"is", 7]
        for word in words + odd_things():
            for rest in ((), ("rye",), ("price", 7), (ANY,), ((ANY, ANY),)):
                self.check((word,) + rest, False)

    def test_the_form_of_another_word(self):
        forms = {
            (): ("any",), ("rye",): ("is", "by"), ("price", 7): ("least", "most"), (ANY,): ("not",),
            ((ANY, ANY),): ("and", "or"),
        }
        for word in ("any", "is", "by", "least", "most", "not", "and", "or"):
            for rest, words in forms.items():
                self.check((word,) + rest, word in words)

    def test_too_many_parts_of_a_form(self):
        for wish in PLAIN + (("not", ANY), ("and", (ANY, ANY)), ("or", (ANY, ANY))):
            for more in (None, ANY, "rye", 7, ()):
                self.check_at_any_depth(wish + (more,), False)

    def test_wishes_that_are_not_in_a_tuple_of_their_own(self):
        self.check(("and", ANY, ANY), False)
        self.check(("or", ANY, ANY), False)
        self.check(("not", (ANY,)), False)
        self.check(("not", (ANY, ANY)), False)

    def test_lists_in_place_of_tuples(self):
        self.check(["any"], False)
        self.check(("not", ["any"]), False)
        self.check(["not", ANY], False)
        self.check(["and", (ANY, ANY)], False)

    def test_towers_of_some_thousand(self):
        for make in MAKERS:
            for base in (ANY, None, ("is", "A")):
                tall = tower(make, 2400, base)
                self.tell(f"{make.__name__} {base}", tall, False)
        self.tell("nots", tower(put_not, 9999), False)
        mixed = tower(lambda wish: ("not", ("and", (ANY, ("or", (wish, ANY))))), 1500)
        self.tell("mixed", mixed, False)

    def test_deep_things(self):
        for name, deep in deep_things():
            for at, thing in enumerate((
                deep, (deep,), ("any", deep), ("is", deep), ("by", deep), (deep, "rye"), ("least", deep, 7),
                ("least", "price", deep), ("most", deep, 7), ("most", "price", deep), (deep, "price", 7),
                ("not", deep), ("and", deep), ("or", deep), ("and", (ANY, deep)), ("or", (deep, ANY)), (deep, deep),
            )):
                self.tell(f"{name} {at}", thing, False)
                self.tell(f"{name} {at} in a not", ("not", thing), False)

    def test_wide_things(self):
        for word in ("and", "or"):
            self.tell(f"wide {word}", (word, (ANY,) * 9999), False)
            self.tell(f"wide {word} in a not", ("not", (word, (ANY,) * 9998)), False)
            self.tell(f"wide {word} of wide ones", (word, ((word, (ANY,) * 99),) * 99), False)
        self.tell("wide any", ANY * 10000, False)
        self.tell("wide nots", ("not",) + (ANY,) * 9999, False)

    def test_trees_wide_and_deep(self):
        for word in ("and", "or"):
            for width, deep, truth in ((2, 4, True), (2, 5, True), (3, 4, True), (6, 2, True), (5, 3, True),
                                       (6, 3, False), (2, 6, False), (6, 6, False), (2, 13, False), (3, 8, False)):
                parts = sum(width ** row for row in range(deep))
                self.assertLessEqual(parts, 10000)
                self.assertEqual(truth, parts <= 40 and deep <= 6)
                self.tell(f"{word} {width} {deep}", full_tree(word, width, deep), truth)

    def test_what_is_handed_in_stays(self):
        for thing in (["and", [["any"], ["any"]]], ("and", [("any",), ["not", ["any"]]]), ("not", ["any"])):
            kept = copy.deepcopy(thing)
            is_wish(thing)
            self.assertEqual(thing, kept)

    def test_by_name(self):
        self.assertIs(is_wish(thing=ANY), True)


class LetsTest(unittest.TestCase):
    def check(self, wish, truth, card=ANN):
        with self.subTest(repr(wish)):
            self.assertIs(lets(wish, card), truth)
            self.assertIs(lets(wish, card), truth)
            self.assertIs(lets(("not", wish), card), not truth)

    def test_any(self):
        self.check(ANY, True)
        self.check(ANY, True, ("bob", "wood", (), ()))

    def test_is(self):
        self.check(("is", "fresh"), True)
        self.check(("is", "rye"), True)
        for word in ("old", "ann", "bread", "price", "ry", "ryes", "fres"):
            self.check(("is", word), False)
        self.check(("is", "rye"), False, ("rye", "rye", (), (("rye", 1),)))

    def test_by(self):
        self.check(("by", "ann"), True)
        for word in ("bob", "bread", "fresh", "rye", "price", "an", "anna", "a"):
            self.check(("by", word), False)

    def test_least(self):
        for number, truth in ((0, True), (6, True), (7, True), (8, False), (10 ** 9, False)):
            self.check(("least", "price", number), truth)

    def test_most(self):
        for number, truth in ((0, False), (6, False), (7, True), (8, True), (10 ** 9, True)):
            self.check(("most", "price", number), truth)

    def test_a_size_whose_number_is_nought(self):
        self.check(("least", "weight", 0), True)
        self.check(("least", "weight", 1), False)
        self.check(("most", "weight", 0), True)
        self.check(("most", "weight", 1), True)

    def test_the_greatest_number(self):
        card = ("ann", "bread", (), (("price", 10 ** 9),))
        self.check(("least", "price", 10 ** 9), True, card)
        self.check(("most", "price", 10 ** 9), True, card)
        self.check(("most", "price", 10 ** 9 - 1), False, card)

    def test_a_size_that_the_card_has_not(self):
        for word in ("length", "pric", "prices", "rye", "ann"):
            for number in (0, 1, 7, 10 ** 9):
                self.check(("least", word, number), False)
                self.check(("most", word, number), False)

    def test_the_size_of_its_own_word(self):
        card = ("ann", "bread", (), (("a", 1), ("b", 5), ("c", 9)))
        for word, number in card[3]:
            for told in range(11):
                self.check(("least", word, told), number >= told, card)
                self.check(("most", word, told), number <= told, card)

    def test_ands_and_ors_by_their_truths(self):
        yes, no = ("is", "rye"), ("is", "old")
        for many in range(2, 7):
            for truths in itertools.product((True, False), repeat=many):
                wishes = tuple(yes if truth else no for truth in truths)
                self.check(("and", wishes), all(truths))
                self.check(("or", wishes), any(truths))

    def test_nested_ones(self):
        self.check(("and", (("not", ("is", "old")), ("or", (("is", "wheat"), ("most", "price", 9))))), True)
        self.check(("and", (("not", ("is", "old")), ("or", (("is", "wheat"), ("most", "price", 6))))), False)
        self.check(("and", (("not", ("is", "rye")), ("or", (("is", "rye"), ("most", "price", 9))))), False)
        self.check(("or", (("and", (("by", "ann"), ("is", "old"))), ("and", (ANY, ("least", "price", 7))))), True)
        self.check(("or", (("and", (("by", "ann"), ("is", "old"))), ("and", (ANY, ("least", "price", 8))))), False)
        self.check(("not", ("or", (("by", "bob"), ("not", ("and", (("by", "ann"), ("is", "rye"))))))), True)
        self.check(("and", (("not", ("least", "length", 0)), ("not", ("most", "length", 10 ** 9)))), True)

    def test_towers_of_nots(self):
        for times in range(6):
            self.check(tower(put_not, times, ("is", "rye")), times % 2 == 0)
            self.check(tower(put_not, times, ("is", "old")), times % 2 == 1)

    def test_somewhat_beyond_the_limits(self):
        self.check(tower(put_not, 9), False)
        self.check(tower(put_and, 9, ("is", "old")), False)
        self.check(("or", (("is", "old"),) * 8 + (ANY,)), True)
        self.check(("and", (("least", "price", 10 ** 9 + 1), ANY)), False)

    def test_by_name(self):
        self.assertIs(lets(wish=("by", "ann"), card=ANN), True)
        self.assertIs(lets(card=ANN, wish=("by", "bob")), False)


if __name__ == "__main__":
    unittest.main()
