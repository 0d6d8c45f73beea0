"""Words, numbers, times and cards: 1.1, 1.2, and what 0.2 says of them."""

import copy
import unittest

from matepoint.cards import has_mark, is_card, is_number, is_time, is_word, size_of
from tests.things import ANN, SIX_WORDS, deep_things, odd_things

SIX_MARKS = ("a", "b", "c", "d", "e", "f")
SIX_SIZES = (("a", 0), ("b", 1), ("c", 10 ** 9), ("d", 1), ("e", 5), ("f", 2))


class WordTest(unittest.TestCase):
    def check(self, thing, truth):
        with self.subTest(repr(thing)):
            self.assertIs(is_word(thing), truth)
            self.assertIs(is_word(thing), truth)

    def test_ordinary_words(self):
        for thing in ("ann", "bread", "rye", "zz", "least", "most", "give", "take", "bear"):
            self.check(thing, True)

    def test_lengths(self):
        for length in range(1, 9):
            self.check("a" * length, True)
        for length in (0, 9, 10, 1000):
            self.check("a" * length, False)

    def test_each_small_letter_alone_and_at_each_place(self):
        for letter in "abcdefghijklmnopqrstuvwxyz":
            self.check(letter, True)
            for at in range(8):
                self.check("m" * at + letter + "m" * (7 - at), True)

    def test_the_six_are_none(self):
        for thing in SIX_WORDS:
            self.check(thing, False)

    def test_words_near_the_six(self):
        for thing in SIX_WORDS:
            for near in (thing + "a", thing + "s", "a" + thing, thing + thing):
                self.check(near, True)
        for thing in ("an", "i", "b", "no", "o", "isle", "byte", "nothing", "anyone", "andy", "order"):
            self.check(thing, True)

    def test_other_signs(self):
        for sign in " \n\t_-.,0129AZ(){}`~|=<>@[\0\x7f\u00e4\u00df\u0430\uff41\u00aa\ud800":
            self.check(sign, False)
            for at in range(4):
                self.check("ann"[:at] + sign + "ann"[at:], False)

    def test_great_letters(self):
        for thing in ("Ann", "aNn", "anN", "ANN", "Any", "IS", "A"):
            self.check(thing, False)

    def test_what_is_no_text(self):
        for thing in odd_things() + [0, 1, 7, ("ann",), ("a", "n", "n"), ANN]:
            self.check(thing, False)

    def test_deep_things(self):
        for name, thing in deep_things():
            with self.subTest(name):
                self.assertIs(is_word(thing), False)

    def test_by_name(self):
        self.assertIs(is_word(thing="ann"), True)


class NumberTest(unittest.TestCase):
    def check(self, thing, truth):
        with self.subTest(repr(thing)):
            for tell in (is_number, is_time):
                self.assertIs(tell(thing), truth)
                self.assertIs(tell(thing), truth)

    def test_ordinary_ones(self):
        for thing in (2, 3, 7, 10, 255, 256, 257, 1000, 10 ** 6, 123456789, 2 ** 29):
            self.check(thing, True)

    def test_edges(self):
        for thing in (0, 1, 10 ** 9 - 1, 10 ** 9):
            self.check(thing, True)
        for thing in (-1, -2, 10 ** 9 + 1, 10 ** 9 + 2, 2 ** 31, -(10 ** 9), 2 ** 64, 10 ** 39, -(10 ** 39)):
            self.check(thing, False)

    def test_truths_are_no_numbers(self):
        self.check(True, False)
        self.check(False, False)

    def test_texts_of_figures(self):
        for thing in ("", "0", "1", "7", "12", "1000000000", "\u0661"):
            self.check(thing, False)

    def test_what_is_no_int(self):
        for thing in odd_things() + [(7,), [7], {7: 7}, (0, 1), ANN]:
            self.check(thing, False)

    def test_deep_things(self):
        for name, thing in deep_things():
            with self.subTest(name):
                self.assertIs(is_number(thing), False)
                self.assertIs(is_time(thing), False)

    def test_by_name(self):
        self.assertIs(is_number(thing=7), True)
        self.assertIs(is_time(thing=7), True)


class CardTest(unittest.TestCase):
    def check(self, thing, truth):
        with self.subTest(repr(thing)):
            self.assertIs(is_card(thing), truth)
            self.assertIs(is_card(thing), truth)

    def check_marks(self, marks, truth):
        self.check(("ann", "bread", marks, ()), truth)
        self.check(("ann", "bread", marks, (("price", 7),)), truth)

    def check_sizes(self, sizes, truth):
        self.check(("ann", "bread", (), sizes), truth)
        self.check(("ann", "bread", ("fresh", "rye"), sizes), truth)

    def test_ordinary_cards(self):
        self.check(ANN, True)
        self.check(("ann", "bread", ("fresh", "rye"), (("price", 7),)), True)
        self.check(("a", "a", ("a",), (("a", 0),)), True)

    def test_none_to_six_marks(self):
        for many in range(7):
            self.check_marks(SIX_MARKS[:many], True)
        self.check_marks(SIX_MARKS + ("g",), False)
        self.check_marks(SIX_MARKS + ("g", "h"), False)

    def test_none_to_six_sizes(self):
        for many in range(7):
            self.check_sizes(SIX_SIZES[:many], True)
        self.check_sizes(SIX_SIZES + (("g", 1),), False)
        self.check_sizes(SIX_SIZES + (("g", 1), ("h", 1)), False)

    def test_six_of_both(self):
        self.check(("ann", "bread", SIX_MARKS, SIX_SIZES), True)

    def test_marks_that_do_not_rise(self):
        for marks in (("b", "a"), ("a", "c", "b"), ("b", "a", "c"), ("c", "b", "a"), ("ab", "a"), ("b", "aa")):
            self.check_marks(marks, False)

    def test_marks_that_stand_twice(self):
        for marks in (("a", "a"), ("a", "a", "b"), ("a", "b", "b"), ("a", "b", "a"), ("a",) * 6):
            self.check_marks(marks, False)

    def test_words_rise_as_python_compares_texts(self):
        for words in (("a", "aa"), ("aa", "ab"), ("aa", "b"), ("a", "b", "z"), ("rye", "ryes"), ("ab", "b", "ba")):
            self.check_marks(words, True)
            self.check_sizes(tuple((word, 3) for word in words), True)

    def test_sizes_that_do_not_rise(self):
        for words in (("b", "a"), ("a", "c", "b"), ("b", "a", "c"), ("ab", "a"), ("b", "aa")):
            self.check_sizes(tuple((word, at) for at, word in enumerate(words)), False)

    def test_sizes_that_stand_twice(self):
        self.check_sizes((("a", 1), ("a", 1)), False)
        self.check_sizes((("a", 1), ("a", 2)), False)
        self.check_sizes((("a", 2), ("a", 1)), False)
        self.check_sizes((("a", 1), ("b", 2), ("b", 3)), False)

    def test_the_numbers_of_sizes_need_not_rise(self):
        self.check_sizes((("a", 9), ("b", 1)), True)
        self.check_sizes((("a", 9), ("b", 9)), True)

    def test_names_and_kinds_that_are_no_words(self):
        bad = odd_things() + list(SIX_WORDS) + ["", "Ann", "abcdefghi", "a b", 7, ("ann",)]
        for thing in bad:
            self.check((thing, "bread", ("rye",), (("price", 7),)), False)
            self.check(("ann", thing, ("rye",), (("price", 7),)), False)

    def test_marks_that_are_no_tuple(self):
        for thing in odd_things() + ["rye", "", 0, ["fresh", "rye"], {"fresh": 1, "rye": 2}, {"rye"}]:
            self.check_marks(thing, isinstance(thing, tuple) and len(thing) == 0)

    def test_a_mark_that_is_no_word(self):
        for thing in odd_things() + list(SIX_WORDS) + ["", "Rye", "abcdefghi", 7, ("rye",)]:
            self.check_marks((thing,), False)
            self.check_marks(("a", thing), False)
            self.check_marks((thing, "zz"), False)

    def test_sizes_that_are_no_tuple(self):
        for thing in odd_things() + ["price", "", 7, [("price", 7)], {"price": 7}]:
            self.check_sizes(thing, isinstance(thing, tuple) and len(thing) == 0)

    def test_a_size_that_is_none(self):
        bad = [
            (), ("a",), ("a", 1, 2), ("a", 1, ()), (("a", 1),), ["a", 1], {"a": 1}, "ab", "a", 7, (1, "a"), (1, 1),
            ("a", "b"), ("a", True), ("a", False), ("a", None), ("a", "1"), ("a", 1.0), ("a", -1), ("a", 10 ** 9 + 1),
            ("", 1), ("A", 1), ("is", 1), ("or", 1), ("abcdefghi", 1), (None, 1), (b"a", 1), (("a",), 1),
        ]
        for thing in bad + odd_things():
            self.check_sizes((thing,), False)
            self.check_sizes((("a", 1), thing), False)
            self.check_sizes((thing, ("zz", 1)), False)

    def test_a_bare_size_in_place_of_sizes(self):
        self.check_sizes(("price", 7), False)

    def test_too_few_and_too_many_parts(self):
        for many in range(4):
            self.check(ANN[:many], False)
        self.check(ANN + ((),), False)
        self.check(ANN + ANN, False)
        self.check((ANN,), False)

    def test_parts_in_another_order(self):
        self.check(("ann", "bread", (("price", 7),), ("fresh",)), False)
        self.check((("fresh",), "ann", "bread", ()), False)

    def test_what_is_no_tuple(self):
        for thing in odd_things() + [list(ANN), {"ann": ANN}, "card", "abcd", 4]:
            self.check(thing, False)

    def test_deep_things(self):
        for name, deep in deep_things():
            with self.subTest(name):
                self.assertIs(is_card(deep), False)
                for at in range(4):
                    self.assertIs(is_card(ANN[:at] + (deep,) + ANN[at + 1:]), False)

    def test_deep_things_within_marks_and_sizes(self):
        for name, deep in deep_things():
            with self.subTest(name):
                self.assertIs(is_card(("ann", "bread", (deep,), ())), False)
                self.assertIs(is_card(("ann", "bread", ("a", deep), ())), False)
                self.assertIs(is_card(("ann", "bread", (deep, deep), ())), False)
                for size in (deep, (deep, 1), ("a", deep), ("a", 1, deep)):
                    self.assertIs(is_card(("ann", "bread", (), (size,))), False)
                    self.assertIs(is_card(("ann", "bread", (), (size, size))), False)

    def test_wide_things(self):
        self.check_marks(("a",) * 10000, False)
        self.check_sizes((("a", 1),) * 10000, False)
        self.check(("ann",) * 10000, False)

    def test_what_is_handed_in_stays(self):
        for thing in (["ann", "bread", ["rye"], [["price", 7]]], ("ann", "bread", ["rye"], [["price", 7]])):
            kept = copy.deepcopy(thing)
            is_card(thing)
            self.assertEqual(thing, kept)

    def test_by_name(self):
        self.assertIs(is_card(thing=ANN), True)


class HasMarkTest(unittest.TestCase):
    def test_each_mark_that_it_has(self):
        for many in range(1, 7):
            card = ("ann", "bread", SIX_MARKS[:many], ())
            for mark in SIX_MARKS:
                self.assertIs(has_mark(card, mark), mark in SIX_MARKS[:many])

    def test_words_that_it_has_not(self):
        for word in ("old", "ann", "bread", "price", "weight", "fres", "freshe", "resh", "ry", "ryes", "ye", "r", "a"):
            self.assertIs(has_mark(ANN, word), False)

    def test_a_card_without_marks(self):
        self.assertIs(has_mark(("ann", "bread", (), (("rye", 1),)), "rye"), False)

    def test_asked_again(self):
        self.assertEqual([has_mark(ANN, "rye") for time in range(3)], [True] * 3)

    def test_by_name(self):
        self.assertIs(has_mark(card=ANN, word="fresh"), True)
        self.assertIs(has_mark(word="old", card=ANN), False)


class SizeOfTest(unittest.TestCase):
    def check(self, card, word, number):
        with self.subTest(word):
            told = size_of(card, word)
            self.assertEqual(told, number)
            self.assertIs(type(told), type(number))
            self.assertEqual(size_of(card, word), told)

    def test_each_size_that_it_has(self):
        for word, number in SIX_SIZES:
            self.check(("ann", "bread", (), SIX_SIZES), word, number)

    def test_a_size_whose_number_is_nought(self):
        self.check(ANN, "weight", 0)
        self.check(("ann", "bread", (), (("price", 0),)), "price", 0)

    def test_words_that_it_has_not(self):
        for word in ("ann", "bread", "fresh", "rye", "pric", "prices", "rice", "p", "weigh", "weights", "a"):
            self.check(ANN, word, None)

    def test_a_card_without_sizes(self):
        self.check(("ann", "bread", ("price",), ()), "price", None)

    def test_by_name(self):
        self.assertEqual(size_of(card=ANN, word="price"), 7)
        self.assertIsNone(size_of(word="length", card=ANN))


if __name__ == "__main__":
    unittest.main()
