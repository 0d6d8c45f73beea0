"""Wishes as texts: 3.1, 3.2, and what 0.2 says of them."""

import itertools
import unittest

from matepoint.errors import MateError, NoText
from matepoint.wishes import is_wish
from matepoint.wishtexts import read_wish, wish_text
from tests.things import SIX_WORDS, Chance, full_wish, odd_things, tower

ANY = ("any",)
A, B, C = ("is", "a"), ("by", "b"), ("most", "c", 3)

WRITTEN = [
    (ANY, "any"),
    (("is", "rye"), "is rye"),
    (("by", "ann"), "by ann"),
    (("least", "price", 7), "price >= 7"),
    (("most", "price", 7), "price <= 7"),
    (("least", "a", 0), "a >= 0"),
    (("most", "a", 0), "a <= 0"),
    (("least", "a", 10 ** 9), "a >= 1000000000"),
    (("most", "a", 10 ** 9), "a <= 1000000000"),
    (("least", "a", 120), "a >= 120"),
    (("is", "abcdefgh"), "is abcdefgh"),
    (("least", "least", 1), "least >= 1"),
    (("most", "most", 1), "most <= 1"),
    (("is", "least"), "is least"),
    (("by", "isle"), "by isle"),
    (("not", ANY), "not any"),
    (("not", A), "not is a"),
    (("not", C), "not c <= 3"),
    (("not", ("not", A)), "not not is a"),
    (("not", ("not", ("not", B))), "not not not by b"),
    (("and", (A, B)), "is a and by b"),
    (("or", (A, B)), "is a or by b"),
    (("and", (A, B, C)), "is a and by b and c <= 3"),
    (("or", (A, B, C)), "is a or by b or c <= 3"),
    (("and", (ANY,) * 6), "any and any and any and any and any and any"),
    (("or", (ANY,) * 6), "any or any or any or any or any or any"),
    (("not", ("and", (A, B))), "not ( is a and by b )"),
    (("not", ("or", (A, B))), "not ( is a or by b )"),
    (("not", ("not", ("and", (A, B)))), "not not ( is a and by b )"),
    (("not", ("not", ("or", (A, B)))), "not not ( is a or by b )"),
    (("and", (("not", A), B)), "not is a and by b"),
    (("or", (A, ("not", B))), "is a or not by b"),
    (("and", (("and", (A, B)), C)), "( is a and by b ) and c <= 3"),
    (("and", (C, ("and", (A, B)))), "c <= 3 and ( is a and by b )"),
    (("and", (("or", (A, B)), C)), "( is a or by b ) and c <= 3"),
    (("and", (C, ("or", (A, B)))), "c <= 3 and ( is a or by b )"),
    (("and", (A, ("or", (A, B)), C)), "is a and ( is a or by b ) and c <= 3"),
    (("or", (("or", (A, B)), C)), "( is a or by b ) or c <= 3"),
    (("or", (C, ("or", (A, B)))), "c <= 3 or ( is a or by b )"),
    (("or", (("and", (A, B)), C)), "is a and by b or c <= 3"),
    (("or", (C, ("and", (A, B)))), "c <= 3 or is a and by b"),
    (("or", (("and", (A, B)), ("and", (B, C)))), "is a and by b or by b and c <= 3"),
    (("or", (("and", (A, ("or", (B, C)))), A)), "is a and ( by b or c <= 3 ) or is a"),
    (("or", (("and", (A, ("and", (B, C)))), A)), "is a and ( by b and c <= 3 ) or is a"),
    (("and", (("or", (A, ("and", (B, C)))), A)), "( is a or by b and c <= 3 ) and is a"),
    (("or", (("not", ("or", (A, B))), ("not", ("and", (B, C))))), "not ( is a or by b ) or not ( by b and c <= 3 )"),
    (("and", (("not", ("is", "old")), ("or", (("is", "rye"), ("most", "price", 9))))),
     "not is old and ( is rye or price <= 9 )"),
    (tower(lambda wish: ("not", wish), 5), "not not not not not any"),
    (tower(lambda wish: ("and", (wish, A)), 5, B), "( ( ( ( by b and is a ) and is a ) and is a ) and is a ) and is a"),
    (tower(lambda wish: ("or", (A, wish)), 5, B), "is a or ( is a or ( is a or ( is a or ( is a or by b ) ) ) )"),
    (full_wish("or", "and"),
     "any and is rye and by ann and price >= 0 and price <= 1000000000 and is old or "
     "any and is rye and by ann and price >= 0 and price <= 1000000000 and is old or "
     "any and is rye and by ann and price >= 0 and price <= 1000000000 and is old or "
     "any and is rye and by ann and price >= 0 and price <= 1000000000 and is old or "
     "not by bob or not not not ( any and is rye and by ann and price >= 0 and price <= 1000000000 )"),
]


def wishes_by_chance():
    chance = Chance(31)
    return [chance.wish() for at in range(400)] + [full_wish("and", "or"), full_wish("or", "and")]


def closing(words, at):
    """The place of the bracket that closes the one at that place."""
    depth = 0
    for place in range(at, len(words)):
        depth += {"(": 1, ")": -1}.get(words[place], 0)
        if depth == 0:
            return place


def refused_at(text):
    """The at of the refusal of a text; None where it is read."""
    try:
        read_wish(text)
    except NoText as refusal:
        return refusal.at
    return None


class WriteTest(unittest.TestCase):
    def test_written_texts(self):
        for wish, text in WRITTEN:
            with self.subTest(text):
                self.assertTrue(is_wish(wish))
                self.assertEqual(wish_text(wish), text)
                self.assertEqual(wish_text(wish), text)

    def test_each_is_read_as_the_very_wish(self):
        for wish in [wish for wish, text in WRITTEN] + wishes_by_chance():
            with self.subTest(wish):
                # repr tells tuples from lists, and numbers from truths
                self.assertEqual(repr(read_wish(wish_text(wish))), repr(wish))
                self.assertEqual(repr(read_wish(wish_text(wish))), repr(wish))

    def test_no_bracket_is_needless(self):
        for wish in [wish for wish, text in WRITTEN] + wishes_by_chance():
            words = wish_text(wish).split(" ")
            for at in [at for at, word in enumerate(words) if word == "("]:
                last = closing(words, at)
                text = " ".join(words[:at] + words[at + 1:last] + words[last + 1:])
                with self.subTest(text):
                    self.assertTrue(refused_at(text) is not None or read_wish(text) != wish)

    def test_somewhat_beyond_the_limits(self):
        self.assertEqual(wish_text(("and", (ANY,) * 7)), " and ".join(["any"] * 7))
        self.assertEqual(wish_text(tower(lambda wish: ("not", wish), 9)), "not " * 9 + "any")
        self.assertEqual(wish_text(("least", "abcdefghi", 10 ** 10)), "abcdefghi >= 10000000000")

    def test_by_name(self):
        self.assertEqual(wish_text(wish=A), "is a")


class ReadTest(unittest.TestCase):
    def check(self, text, wish):
        with self.subTest(text):
            self.assertTrue(is_wish(wish))
            self.assertEqual(repr(read_wish(text)), repr(wish))

    def test_needless_brackets_around_the_whole(self):
        for wish, text in WRITTEN:
            self.check(f"( {text} )", wish)
            self.check(f"( ( {text} ) )", wish)

    def test_needless_brackets_within(self):
        for wish, text in WRITTEN:
            if is_wish(("not", wish)):
                self.check(f"not ( {text} )", ("not", wish))
                self.check(f"not ( ( {text} ) )", ("not", wish))
            if is_wish(("and", (wish, A))):
                self.check(f"( {text} ) and is a", ("and", (wish, A)))
                self.check(f"is a or ( {text} )", ("or", (A, wish)))
        self.check("( is a ) and ( by b )", ("and", (A, B)))
        self.check("( is a ) or ( ( by b ) )", ("or", (A, B)))
        self.check("not ( is a )", ("not", A))
        self.check("not ( ( is a ) )", ("not", A))
        self.check("not ( not is a )", ("not", ("not", A)))
        self.check("( not is a )", ("not", A))
        self.check("( not ( is a ) ) and by b", ("and", (("not", A), B)))
        self.check("( is a and by b ) or c <= 3", ("or", (("and", (A, B)), C)))
        self.check("c <= 3 or ( ( is a and by b ) )", ("or", (C, ("and", (A, B)))))
        self.check("( ( is a or by b ) ) and c <= 3", ("and", (("or", (A, B)), C)))

    def test_what_binds_closer(self):
        self.check("not is a and by b", ("and", (("not", A), B)))
        self.check("not is a or by b", ("or", (("not", A), B)))
        self.check("not not is a and by b", ("and", (("not", ("not", A)), B)))
        self.check("not ( is a ) and by b", ("and", (("not", A), B)))
        self.check("not ( is a or by b ) and c <= 3", ("and", (("not", ("or", (A, B))), C)))
        self.check("is a and by b or c <= 3", ("or", (("and", (A, B)), C)))
        self.check("is a or by b and c <= 3", ("or", (A, ("and", (B, C)))))
        self.check("is a or by b and c <= 3 or any", ("or", (A, ("and", (B, C)), ANY)))
        self.check("is a and by b or c <= 3 and any", ("or", (("and", (A, B)), ("and", (C, ANY)))))
        self.check("is a and by b and c <= 3 or any", ("or", (("and", (A, B, C)), ANY)))
        self.check("is a and not by b or not c <= 3 and any",
                   ("or", (("and", (A, ("not", B))), ("and", (("not", C), ANY)))))

    def test_brackets_make_one_part(self):
        for word in ("and", "or"):
            self.check(f"( is a {word} by b ) {word} c <= 3", (word, ((word, (A, B)), C)))
            self.check(f"is a {word} ( by b {word} c <= 3 )", (word, (A, (word, (B, C)))))
            self.check(f"is a {word} ( by b {word} c <= 3 ) {word} any", (word, (A, (word, (B, C)), ANY)))
            self.check(f"( is a {word} by b ) {word} ( c <= 3 {word} any )", (word, ((word, (A, B)), (word, (C, ANY)))))
            self.check(f"( ( is a {word} by b ) ) {word} c <= 3", (word, ((word, (A, B)), C)))
            self.check(f"( ( is a {word} by b ) {word} c <= 3 ) {word} any",
                       (word, ((word, ((word, (A, B)), C)), ANY)))

    def test_words_and_numbers_at_their_edges(self):
        for word in ("a", "z", "abcdefgh", "least", "most", "anyone", "iss", "bye", "nota", "andy", "ore", "an", "no"):
            self.check(f"is {word}", ("is", word))
            self.check(f"by {word}", ("by", word))
            self.check(f"{word} >= 5", ("least", word, 5))
            self.check(f"{word} <= 5", ("most", word, 5))
        for figures in ("0", "1", "9", "10", "100", "999999999", "1000000000"):
            self.check(f"a >= {figures}", ("least", "a", int(figures)))
            self.check(f"a <= {figures}", ("most", "a", int(figures)))

    def test_twelve_within_one_another(self):
        self.check("( " * 12 + "is a" + " )" * 12, A)
        self.check("( " * 11 + "not is a" + " )" * 11, ("not", A))
        self.check("not " + "( " * 11 + "is a" + " )" * 11, ("not", A))
        self.check("( " * 7 + "not " * 5 + "any" + " )" * 7, tower(lambda wish: ("not", wish), 5))
        self.check("not ( " * 5 + "( ( is a ) )" + " )" * 5, tower(lambda wish: ("not", wish), 5, A))

    def test_what_is_closed_counts_no_more(self):
        twelve = "( " * 12 + "is a" + " )" * 12
        self.check(f"{twelve} and {twelve}", ("and", (A, A)))
        self.check(f"{twelve} or {twelve} or {twelve}", ("or", (A, A, A)))
        nots = "( " * 8 + "not " * 4 + "is a" + " )" * 8
        four = tower(lambda wish: ("not", wish), 4, A)
        self.check(f"{nots} and {nots}", ("and", (four, four)))
        self.check(f"not not not not is a and {nots}", ("and", (four, four)))
        eleven = "( " * 11 + "is a" + " )" * 11
        self.check(f"( {eleven} and {eleven} ) or {twelve}", ("or", (("and", (A, A)), A)))
        self.check(f"not ( {eleven[2:-2]} or {eleven[2:-2]} ) and {twelve}", ("and", (("not", ("or", (A, A))), A)))
        self.check("( " * 11 + "not is a and not is a" + " )" * 11, ("and", (("not", A), ("not", A))))
        self.check("( " * 11 + "not is a and ( is a )" + " )" * 11, ("and", (("not", A), A)))

    def test_by_name(self):
        self.assertEqual(read_wish(text="is a"), A)


class RefuseTest(unittest.TestCase):
    def check(self, text, at):
        with self.subTest(repr(text)):
            with self.assertRaises(NoText) as caught:
                read_wish(text)
            self.assertIsInstance(caught.exception, MateError)
            self.assertIs(int, type(caught.exception.at))
            self.assertEqual(caught.exception.at, at)
            self.assertEqual(refused_at(text), at)

    def test_what_is_no_text(self):
        for thing in odd_things() + [0, 7, ANY, ["any"], [["any"]], ("is", "a"), b"is a"]:
            self.check(thing, 0)

    def test_the_text_without_signs_and_blanks_alone(self):
        self.check("", 0)
        self.check(" ", 0)
        self.check("   ", 0)
        self.check("\n", 0)

    def test_each_kind_of_word_at_the_begin_of_a_wish(self):
        for ahead in ("", "not ", "( ", "is a and ", "is a or ", "( not ( "):
            many = len(ahead.split())
            for word in "and or ) >= <= 0 7 Rye - & any, () (is a) = !".split():
                self.check(f"{ahead}{word}", many)
                self.check(f"{ahead}{word} is a", many)

    def test_each_kind_of_word_behind_a_wish(self):
        for ahead in ("any", "is a", "by b", "a >= 7", "not any", "( any )", "is a and by b", "is a or not by b"):
            many = len(ahead.split())
            for word in "any is by not ( ) a price >= <= 0 7 And OR & &&".split():
                self.check(f"{ahead} {word}", many)
                self.check(f"{ahead} {word} is a", many)
                if word != ")":
                    self.check(f"( {ahead} {word} )", many + 1)

    def test_each_kind_of_word_in_place_of_a_name(self):
        words = "( ) >= <= 0 7 Rye rYe a1 1a a-b a,b a. _ a_b (a a) 'a' ~ @ ` { [ ANY".split()
        words += list(SIX_WORDS) + ["\"a\"", "a\nb", "a\n", "\na", "\n", "a\tb", ""]
        for word in words:
            for ahead in ("is", "by"):
                self.check(f"{ahead} {word}", 1)
                self.check(f"{ahead} {word} and any", 1)
                self.check(f"not ( {ahead} {word} )", 3)
        for word in set(words) - set(SIX_WORDS) - {"("}:
            self.check(f"{word} >= 7", 0)
            self.check(f"any and {word} <= 7", 2)

    def test_each_kind_of_word_in_place_of_a_sign(self):
        for word in list(SIX_WORDS) + "( ) 0 7 a > < = == => =< != >=7 >== a>=".split() + ["", "\n", ">=\n"]:
            self.check(f"price {word} 7", 1)
            self.check(f"any or price {word} 7", 3)

    def test_each_kind_of_word_in_place_of_a_number(self):
        words = "( ) >= <= a seven -1 +1 1.0 1e3 1_0 0x1 7a 7x a7 , 1,0 (7) / : 1: 1/2".split()
        words += "00 07 007 01000000000 0000000000 00000000000 10000000000 12345678901".split()
        words += list(SIX_WORDS) + ["9" * 40, "7\n", "\n7", "\n", ""]
        for word in words:
            for sign in (">=", "<="):
                self.check(f"price {sign} {word}", 2)
                self.check(f"is a and price {sign} {word} or any", 5)

    def test_words_left_out(self):
        self.check("rye", 1)
        self.check("is and any", 1)
        self.check("price 7", 1)
        self.check(">= 7", 0)
        self.check("price >=", 2)
        self.check("price >= and any", 2)
        self.check("and is a", 0)
        self.check("is a is b", 2)
        self.check("any any", 1)
        self.check("not and any", 1)
        self.check("is a and or by b", 3)
        self.check("( )", 1)
        self.check("not ( ) and any", 2)

    def test_words_put_in_or_told_twice(self):
        self.check("is is a", 1)
        self.check("is a a", 2)
        self.check("is a b", 2)
        self.check("by by a", 1)
        self.check("price price >= 7", 1)
        self.check("price >= >= 7", 2)
        self.check("price >= 7 7", 3)
        self.check("is a and and by b", 3)
        self.check("is a or or by b", 3)
        self.check("is a not by b", 2)
        self.check("is a and not not or by b", 5)
        self.check("is not a", 1)
        self.check("( is a ) ( by b )", 4)

    def test_blanks_and_line_feeds(self):
        for wish, text in WRITTEN:
            words = text.split(" ")
            self.check(f" {text}", 0)
            self.check(f"  {text}", 0)
            self.check(f"{text} ", len(words))
            self.check(f"{text}  ", len(words))
            self.check(f"\n{text}", 0)
            self.check(f"{text}\n", len(words) - 1)
            for at in range(1, len(words)):
                self.check(" ".join(words[:at]) + "  " + " ".join(words[at:]), at)
        self.check("is\na", 0)
        self.check("is\n a", 0)
        self.check("is a\nand any", 1)
        self.check("is a \n and any", 2)
        self.check("any\n", 0)
        self.check("any\nany", 0)
        self.check("any \n", 1)

    def test_brackets_that_do_not_close(self):
        self.check("( is a", 3)
        self.check("( ( is a )", 5)
        self.check("not ( is a and by b", 7)
        self.check("( is a and ( by b )", 8)
        self.check("(", 1)
        self.check("( ( (", 3)
        self.check("( is a ]", 3)

    def test_brackets_that_close_too_soon(self):
        self.check(")", 0)
        self.check("is a )", 2)
        self.check("( is a ) )", 4)
        self.check("( is )", 2)
        self.check("( is a and )", 4)
        self.check("( not )", 2)
        self.check("( price )", 2)
        self.check("( price >= )", 3)
        self.check("is a and by b ) or any", 5)
        self.check("( is a ) ) and ( any", 4)

    def test_texts_that_end_too_early(self):
        for text in (
            "is", "by", "price", "price >=", "price <=", "not", "not not", "(", "( not", "is a and", "is a or",
            "is a and not", "is a or (", "( is a and", "( price", "not ( by", "is a and price", "a <= 3 or b >=",
        ):
            self.check(text, len(text.split()))

    def test_each_text_cut_off(self):
        for wish, text in WRITTEN:
            words = text.split(" ")
            for many in range(1, len(words)):
                at = refused_at(" ".join(words[:many]))
                with self.subTest(words[:many]):
                    # the words so far can stand, so only their end may be refused
                    self.assertIn(at, (None, many))

    def test_thirteen_within_one_another(self):
        self.check("( " * 13 + "is a" + " )" * 13, 12)
        self.check("( " * 13 + "is a", 12)
        self.check("not " * 13 + "is a", 12)
        self.check("not ( " * 6 + "not is a" + " )" * 6, 12)
        self.check("( not " * 6 + "( is a" + " )" * 7, 12)
        self.check("not ( " * 7 + "is a" + " )" * 7, 12)
        self.check("( " * 12 + "not is a" + " )" * 12, 12)
        self.check("not " * 12 + "( is a )", 12)
        self.check("( " * 40 + "is a" + " )" * 40, 12)
        self.check("( " * 12 + "is a" + " )" * 12 + " and " + "( " * 13 + "is a" + " )" * 13, 39)
        self.check("( " * 12 + "is a and ( by b )" + " )" * 12, 15)
        self.check("( " * 12 + "is a or not by b" + " )" * 12, 15)
        self.check("( " * 11 + "not is a and ( ( any ) )" + " )" * 11, 16)
        self.check("( " * 11 + "not ( is a )" + " )" * 11, 12)
        self.check("not " * 3 + "( " * 9 + "is a and not by b", 15)

    def test_words_that_tell_no_wish(self):
        for text in (
            "is abcdefghi", "by abcdefghi", "abcdefghi >= 7", "abcdefghi <= 7", "is " + "a" * 300, "not is abcdefghi",
            "any and ( is abcdefghi )", "a >= 1000000001", "a <= 1000000001", "a >= 9999999999",
            "any or a <= 2000000000",
            " and ".join(["any"] * 7), " or ".join(["any"] * 7), "not ( " + " or ".join(["any"] * 7) + " )",
            "not " * 6 + "any", "not " * 12 + "any", "( " * 6 + "not " * 6 + "is a" + " )" * 6,
            " and ".join(["is a"] * 99), " or ".join(["is a and is b"] * 7), "is abcdefghi or a >= 1000000001",
            wish_text(tower(lambda wish: ("and", (wish, ANY)), 6)), wish_text(tower(lambda wish: ("or", (A, wish)), 6)),
            wish_text(("or", (("and", (ANY,) * 6),) * 5 + (("and", (ANY,) * 4),))),
            wish_text(("not", ("or", (("and", (ANY,) * 6),) * 5 + (("and", (ANY,) * 3),)))),
        ):
            self.check(text, len(text.split()))

    def test_a_word_that_cannot_stand_comes_ahead_of_what_tells_no_wish(self):
        self.check("is abcdefghi )", 2)
        self.check("is abcdefghi and", 3)
        self.check("a >= 9999999999 b", 3)
        self.check("not " * 7 + "any any", 8)
        self.check(" and ".join(["any"] * 7) + " any", 13)

    def test_forty_parts_are_read_and_forty_one_are_not(self):
        for last, truth in ((2, True), (3, True), (4, False), (5, False)):
            wish = ("or", (("and", (ANY,) * 6),) * 5 + (("and", (ANY,) * last),))
            text = wish_text(wish)
            if truth:
                self.assertEqual(read_wish(text), wish)
            else:
                self.check(text, len(text.split()))

    def test_six_deep_are_read_and_seven_are_not(self):
        for make in (lambda wish: ("not", wish), lambda wish: ("and", (A, wish)), lambda wish: ("or", (wish, A))):
            self.assertEqual(read_wish(wish_text(tower(make, 5))), tower(make, 5))
            text = wish_text(tower(make, 6))
            self.check(text, len(text.split()))

    def test_by_name(self):
        with self.assertRaises(NoText):
            read_wish(text="is")


def one_wishes(many, tables):
    """All texts of so many words that tell a wish that no and or or joins, with the wish."""
    told = [(("any",), ANY)] if many == 1 else []
    if many > 1:
        told += [(("not",) + words, ("not", wish)) for words, wish in tables["one"][many - 1]]
    if many > 2:
        told += [(("(",) + words + (")",), wish) for words, wish in tables["or"][many - 2]]
    return told


def chains(word, many, below):
    """All texts of so many words that are one or more of those below with the word between, with the wishes."""
    told = [(words, (wish,)) for words, wish in below[many]]
    for first in range(1, many - 1):
        for more, wishes in chains(word, many - first - 1, below):
            told += [(words + (word,) + more, (wish,) + wishes) for words, wish in below[first]]
    return told


def joined_wishes(word, many, below):
    """All texts of so many words that tell an and or an or, with the wish."""
    return [(words, (word, wishes)) for words, wishes in chains(word, many, below) if len(wishes) > 1]


def all_texts(most):
    """All texts of up to so many of the words any, not, and, or, (, ) that can be read, with what they tell."""
    tables = {"one": {0: []}, "and": {0: []}, "or": {0: []}}
    for many in range(1, most + 1):
        tables["one"][many] = one_wishes(many, tables)
        tables["and"][many] = tables["one"][many] + joined_wishes("and", many, tables["one"])
        tables["or"][many] = tables["and"][many] + joined_wishes("or", many, tables["and"])
    return [pair for many in range(1, most + 1) for pair in tables["or"][many]]


class AllShortTextsTest(unittest.TestCase):
    """What is read, and where else it is refused, of all texts of few words: by all texts that can be written."""

    def test_all_texts_of_up_to_five_words(self):
        # five open brackets need a wish and five more words to end well
        pairs = all_texts(11)
        told = dict(pairs)
        self.assertEqual(len(told), len(pairs))
        begins = {words[:many] for words in told for many in range(len(words) + 1)}
        for many in range(1, 6):
            for words in itertools.product(("any", "not", "and", "or", "(", ")"), repeat=many):
                good = max(size for size in range(many + 1) if words[:size] in begins)
                expected = None if words in told else good
                text = " ".join(words)
                self.assertEqual(refused_at(text), expected, text)

    def test_all_right_texts_of_up_to_nine_words(self):
        for words, wish in all_texts(9):
            text = " ".join(words)
            if is_wish(wish):
                self.assertEqual(read_wish(text), wish, text)
            else:
                self.assertEqual(refused_at(text), len(words), text)


if __name__ == "__main__":
    unittest.main()
