"""Offers and books as texts: 9.1, 9.2, and what 0.2 says of them."""

import copy
import unittest

from matepoint.errors import MateError, NoText
from matepoint.offers import is_offer
from matepoint.texts import book_text, offer_text, read_book, read_offer
from matepoint.wishtexts import wish_text
from tests.drawn import Draw, SlowHouse, do
from tests.things import SIX_WORDS, Chance, deep_things, full_wish, odd_things, offer

TOP = 10 ** 9
SIX_MARKS = ("a", "abcdefgh", "b", "fresh", "least", "rye")
SIX_SIZES = tuple((word, number) for word, number in zip(SIX_MARKS, (0, 1, 10, 999, 120, TOP)))
WRITTEN = [
    (("give", ("ann", "bread", ("fresh", "rye"), (("price", 7),)), ("any",), 10, 4, 0, 100),
     "give ann bread fresh,rye price=7 10 4 0 100 | any"),
    (("take", ("bob", "wood", (), ()), ("is", "rye"), 1, 1, 1000, 0),
     "take bob wood - - 1 1 1000 0 | is rye"),
    (("bear", ("c", "abcdefgh", ("a",), ()), ("not", ("by", "ann")), 10 ** 6, 10 ** 6, 5, TOP),
     "bear c abcdefgh a - 1000000 1000000 5 1000000000 | not by ann"),
    (("give", ("give", "take", (), (("a", 0), ("b", TOP))), ("most", "price", 9), 20, 10, 30, 40),
     "give give take - a=0,b=1000000000 20 10 30 40 | price <= 9"),
    (("take", ("ann", "bread", SIX_MARKS, SIX_SIZES), ("least", "a", 0), 3, 2, 1, 5),
     "take ann bread a,abcdefgh,b,fresh,least,rye a=0,abcdefgh=1,b=10,fresh=999,least=120,rye=1000000000 3 2 1 5"
     " | a >= 0"),
    (("give", ("ann", "bread", (), ()),
      ("and", (("not", ("is", "old")), ("or", (("is", "rye"), ("most", "price", 9))))), 3, 2, 1, 5),
     "give ann bread - - 3 2 1 5 | not is old and ( is rye or price <= 9 )"),
]
PLAIN = "give ann bread rye price=7 10 4 3 100 | is rye or by bob"
WORDS = PLAIN.split(" ")


class TextTest(unittest.TestCase):
    def refuse(self, read, text, at, name=None):
        with self.subTest(name or repr(text)):
            for again in range(2):
                with self.assertRaises(MateError) as caught:
                    read(text)
                self.assertIs(type(caught.exception), NoText)
                self.assertEqual(repr(caught.exception.at), repr(at))


class OfferTest(TextTest):
    def check(self, one):
        kept = repr(one)
        text = offer_text(one)
        self.assertIs(type(text), str)
        self.assertEqual(repr(read_offer(text)), kept)
        self.assertEqual(offer_text(read_offer(text)), text)

    def test_written_and_read(self):
        for one, text in WRITTEN:
            with self.subTest(text):
                self.assertTrue(is_offer(one))
                self.assertEqual(offer_text(one), text)
                self.assertEqual(repr(read_offer(text)), repr(one))

    def test_none_to_six_marks_and_sizes(self):
        for many in range(7):
            for other in range(7):
                self.check(offer("give", "ann", marks=SIX_MARKS[:many], sizes=SIX_SIZES[:other]))

    def test_by_chance(self):
        chance = Chance(91)
        dice = chance.dice
        for at in range(300):
            many = dice.choice((1, 7, 10, 999, 10 ** 6))
            marks = tuple(sorted(dice.sample(SIX_MARKS, dice.randint(0, 6))))
            sizes = tuple(sorted(dice.sample(SIX_SIZES, dice.randint(0, 6))))
            self.check(offer(dice.choice(("give", "take", "bear")), chance.word(), chance.word(), chance.wish(), many,
                             dice.randint(1, many), dice.randint(0, 1000), dice.choice((0, 10, TOP)), marks, sizes))

    def test_the_greatest_wishes(self):
        for word, other in (("and", "or"), ("or", "and")):
            self.check(offer("give", "ann", wish=full_wish(word, other)))

    def test_needless_brackets_in_the_wish(self):
        for wish in ("( any )", "( ( any ) )", "( is rye ) or ( by bob )", "( is rye or by bob )", "not ( is a )",
                     "( ( ( ( ( ( ( ( ( ( ( ( any ) ) ) ) ) ) ) ) ) ) ) )"):
            told = read_offer(f"give ann bread - - 9 1 0 100 | {wish}")
            self.assertEqual(told[:2] + told[3:], offer("give", "ann")[:2] + offer("give", "ann")[3:])
            self.assertEqual(offer_text(told), f"give ann bread - - 9 1 0 100 | {wish_text(told[2])}")
        self.assertEqual(read_offer("give ann bread - - 9 1 0 100 | ( is rye ) or ( by bob )")[2],
                         ("or", (("is", "rye"), ("by", "bob"))))

    def test_blanks_and_line_feeds_too_many(self):
        self.assertEqual(len(WORDS), 15)
        for at in range(len(WORDS)):
            for sign in (" ", "\n", "\t", "\r", "\xa0"):
                self.refuse(read_offer, " ".join(WORDS[:at] + [sign + WORDS[at]] + WORDS[at + 1:]), 0)
                self.refuse(read_offer, " ".join(WORDS[:at] + [WORDS[at] + sign] + WORDS[at + 1:]), 0)
            self.refuse(read_offer, " ".join(WORDS[:at] + [""] + WORDS[at:]), 0)
        for text in (PLAIN + " ", " " + PLAIN, PLAIN + "\n", "\n" + PLAIN, PLAIN + "\n" + PLAIN):
            self.refuse(read_offer, text, 0)

    def test_words_left_out_put_in_and_exchanged(self):
        self.assertTrue(is_offer(read_offer(PLAIN)))
        for at in range(len(WORDS)):
            # ahead of its or the wish may end
            if at != 12:
                self.refuse(read_offer, " ".join(WORDS[:at]), 0)
            self.refuse(read_offer, " ".join(WORDS[:at] + WORDS[at + 1:]), 0)
            for word in ("x", "7", "-", "|", "(", ")", "=", ",", "or"):
                self.refuse(read_offer, " ".join(WORDS[:at] + [word] + WORDS[at:]), 0)
            self.refuse(read_offer, " ".join(WORDS[:at] + [WORDS[at] + "|"] + WORDS[at + 1:]), 0)
        for text in ("", " ", "|", " | ", " | any", "any", PLAIN + " | any", "any | " + PLAIN, PLAIN.upper()):
            self.refuse(read_offer, text, 0)
        for bar in ("|", " |", "| ", " || ", " | | ", " \\| ", " / "):
            self.refuse(read_offer, PLAIN.replace(" | ", bar), 0)

    def with_word(self, at, word):
        return " ".join(WORDS[:at] + [word] + WORDS[at + 1:])

    def test_sides_names_and_kinds(self):
        for side in ("", "Give", "gives", "giv", "bring", "any", "-", "give,take"):
            self.refuse(read_offer, self.with_word(0, side), 0)
        for word in SIX_WORDS + ("", "abcdefghi", "Ann", "a1", "a-b", "a,b", "-", "7", "a=1"):
            self.refuse(read_offer, self.with_word(1, word), 0)
            self.refuse(read_offer, self.with_word(2, word), 0)

    def test_marks(self):
        for marks in ("-", "a", "a,b", "a,b,c,d,e,f"):
            told = () if marks == "-" else tuple(marks.split(","))
            self.assertEqual(read_offer(self.with_word(3, marks))[1][2], told)
        for marks in ("", ",", "a,", ",a", "a,,b", "b,a", "a,a", "a,b,c,d,e,f,g", "any", "a,not", "A", "abcdefghi",
                      "-,a", "a,-", "--", "a;b", "a=1", "a-b", "7"):
            self.refuse(read_offer, self.with_word(3, marks), 0)

    def test_sizes(self):
        for sizes, told in (("-", ()), ("a=0", (("a", 0),)), ("a=1,b=0", (("a", 1), ("b", 0))),
                            ("a=1000000000", (("a", TOP),))):
            self.assertEqual(read_offer(self.with_word(4, sizes))[1][3], told)
        for sizes in ("", ",", "a", "a=", "=1", "=", "a=1,", ",a=1", "a=1,,b=2", "b=1,a=2", "a=1,a=2", "a=1,a=1",
                      "a=01", "a=00", "a=-1", "a=+1", "a=1.0", "a=1000000001", "a=10000000000", "a=1=2", "a==1",
                      "any=1", "A=1",
                      "a=1,b=2,c=3,d=4,e=5,f=6,g=7", "abcdefghi=1", "a=b", "-,a=1", "a=1,-", "a1", "a=1 ", "a=1_0"):
            self.refuse(read_offer, self.with_word(4, sizes), 0)

    def test_numbers(self):
        for at, good, wrong in (
                (5, ("4", "5", "1000000"), ("0", "3", "1000001")),
                (6, ("1", "10"), ("0", "11", "1000000")),
                (7, ("0", "1", "1000"), ("1001", "1000000000")),
                (8, ("0", "1", "1000000000"), ("1000000001", "10000000000"))):
            for word in good:
                place = {5: 3, 6: 4, 7: 5, 8: 6}[at]
                self.assertEqual(repr(read_offer(self.with_word(at, word))[place]), word)
                others = ["0" + word, "+" + word, "-" + word, word + ".0", word + ",", "0x" + word, word + "_0"]
                for other in others:
                    self.refuse(read_offer, self.with_word(at, other), 0)
            for word in wrong + ("", "-", "x", "00", "any", "9" * 5000, "\u0663", "\xb2"):
                self.refuse(read_offer, self.with_word(at, word), 0)

    def test_wishes_that_are_none(self):
        head = PLAIN.partition(" | ")[0]
        for wish in ("", "is", "is any", "any any", "any or", "( any", "any )", "is abcdefghi", "price <= 1000000001",
                     "not " * 6 + "any", "not " * 13 + "any", " or ".join(["any"] * 7), "is rye | any", "a = 7", "Any"):
            self.refuse(read_offer, f"{head} | {wish}", 0)

    def test_what_is_no_text(self):
        for thing in odd_things() + [PLAIN.encode(), [PLAIN], (PLAIN,), offer("give", "ann"), 0, 7]:
            self.refuse(read_offer, thing, 0)
        for name, deep in deep_things():
            self.refuse(read_offer, deep, 0, name)

    def test_by_name(self):
        self.assertEqual(read_offer(text=offer_text(offer=offer("give", "ann"))), offer("give", "ann"))


ROWS = [
    (("come", 5, WRITTEN[0][0], 0), f"come 5 0 {WRITTEN[0][1]}"),
    (("come", 0, WRITTEN[4][0], TOP), f"come 0 1000000000 {WRITTEN[4][1]}"),
    (("off", 6, "ann"), "off 6 ann"),
    (("change", TOP, WRITTEN[5][0], 12), f"change 1000000000 12 {WRITTEN[5][1]}"),
    (("less", 7, "bob", 1), "less 7 bob 1"),
    (("less", 7, "abcdefgh", TOP), "less 7 abcdefgh 1000000000"),
    (("wait", 0, "off", 90), "wait 0 off 90"),
    (("wait", 3, "ann", 0), "wait 3 ann 0"),
    (("meet", 8, (0, 1), 4), "meet 8 4 0 1"),
    (("meet", 8, (10, 2, 31), 20), "meet 8 20 10 2 31"),
    (("meet", 0, (3, 3), 1), "meet 0 1 3 3"),
    (("meet", 0, (3, 3, 3), TOP), "meet 0 1000000000 3 3 3"),
    (("out", 9, 3), "out 9 3"),
    (("out", 0, 0), "out 0 0"),
]
NO_ROWS = [
    "", " ", "come", "come 5", "come 5 0", "come 5 0 ", "come 5 0 give", f"come 5 {PLAIN}", f"Come 5 0 {PLAIN}",
    f"come 5 0  {PLAIN}", f"come 5  0 {PLAIN}", f"come  5 0 {PLAIN}", f" come 5 0 {PLAIN}", f"come 5 0 {PLAIN} ",
    f"come 05 0 {PLAIN}", f"come 5 00 {PLAIN}", f"come -5 0 {PLAIN}", f"come 1000000001 0 {PLAIN}",
    f"come 5 1000000001 {PLAIN}", f"come x 0 {PLAIN}", f"come 5 x {PLAIN}", f"come 5 {PLAIN} 0",
    f"come 5 0 {PLAIN.replace('10 4', '10 11')}",
    "change", "change 5 0", f"change 5 {PLAIN}", f"change 05 0 {PLAIN}", f"change 5 01 {PLAIN}",
    f"changes 5 0 {PLAIN}", f"would 5 0 {PLAIN}", f"house 5 0 {PLAIN}",
    "off", "off 5", "off 5 ", "off 5 ann ", "off 5 ann bob", "off  5 ann", "off 05 ann", "off ann 5", "off 5 any",
    "off 5 abcdefghi", "off 5 Ann", "off 5 7", "off 1000000001 ann", "off 5 -", "off 5 ann,bob", "OFF 5 ann",
    "offs 5 ann",
    "less", "less 5 ann", "less 5 ann 0", "less 5 ann 01", "less 5 ann 1000000001", "less 5 ann 1 1",
    "less 5 ann -1", "less 5 or 1", "less 5  1", "less 05 ann 1", "less 5 ann x", "less 5 1 ann",
    "wait", "wait 5 ann", "wait 5 ann 09", "wait 5 ann 1000000001", "wait 5 ann 9 9", "wait 5 by 9",
    "wait 05 ann 9", "wait 5 9 ann", "wait 5 ann -",
    "meet", "meet 5", "meet 5 1", "meet 5 1 0", "meet 5 1 0 1 2 3", "meet 5 0 0 1", "meet 5 01 0 1",
    "meet 05 1 0 1", "meet 5 1 00 1", "meet 5 1 0 01", "meet 5 1 0 1 02", "meet 5 1 0 1 ", "meet 5 1 0 1 x",
    "meet 5 1 0 -1", "meet 5 1 (0, 1)", "meet 5 1 0,1", "meet 5 1000000001 0 1", "meet 5 1 0 1000000001",
    "meet 5 1 0 1 1000000001", "meet 1000000001 1 0 1", "meet  5 1 0 1", "meet 5 0 0 1 2",
    "out", "out 5", "out 5 ", "out 5 00", "out 05 0", "out 5 0 0", "out 5 ann", "out 5 -1", "out 5 1000000001",
    "out 1000000001 5", "to 5", "row", "none", "-", "5", "any", "ok", "judge",
]


class BookTest(TextTest):
    def check(self, book):
        text = book_text(book)
        self.assertIs(type(text), str)
        self.assertEqual(repr(read_book(text)), repr(book))
        self.assertIs(type(read_book(text)), list)
        self.assertEqual(book_text(read_book(text)), text)

    def test_each_row_written_and_read(self):
        for row, text in ROWS:
            with self.subTest(text):
                self.assertEqual(book_text([row]), text)
                self.assertEqual(repr(read_book(text)), repr([row]))

    def test_no_rows(self):
        self.assertEqual(book_text([]), "")
        self.assertEqual(read_book(""), [])
        self.check([])

    def test_rows_with_line_feeds_between(self):
        book = [row for row, text in ROWS]
        self.assertEqual(book_text(book), "\n".join(text for row, text in ROWS))
        for many in range(len(book) + 1):
            self.check(book[:many])
            self.check(book[many:] + book[:many])

    def test_needless_brackets_in_a_wish(self):
        text = "come 5 0 give ann bread - - 9 1 0 100 | ( ( any ) )\noff 5 ann"
        self.assertEqual(read_book(text), [("come", 5, offer("give", "ann"), 0), ("off", 5, "ann")])

    def test_line_feeds_too_many(self):
        text = "off 5 ann"
        self.refuse(read_book, "\n", 0)
        self.refuse(read_book, "\n\n", 0)
        self.refuse(read_book, "\n" + text, 0)
        self.refuse(read_book, text + "\n", 1)
        self.refuse(read_book, text + "\n\n" + text, 1)
        self.refuse(read_book, text + "\n" + text + "\n", 2)
        self.refuse(read_book, text + "\r\n" + text, 0)
        self.refuse(read_book, text + "\n " + text, 1)

    def test_what_is_no_row(self):
        good = [text for row, text in ROWS]
        for text in NO_ROWS:
            if text != "":
                self.refuse(read_book, text, 0)
            for at in (1, 2, len(good)):
                self.refuse(read_book, "\n".join(good[:at] + [text] + good[at:]), at)
                self.refuse(read_book, "\n".join(good[:at] + [text]), at)
                self.refuse(read_book, "\n".join(good[:at] + [text, text] + good[at:]), at)

    def test_blanks_too_many_in_each_row(self):
        for at, (row, text) in enumerate(ROWS):
            words = text.split(" ")
            for place in range(len(words)):
                self.refuse(read_book, " ".join(words[:place] + [""] + words[place:]), 0)
                twice = " ".join(words[:place] + [words[place] + "\t"] + words[place + 1:])
                self.refuse(read_book, "\n".join(["out 5 0"] * at + [twice]), at)
            self.refuse(read_book, text + " ", 0)

    def test_words_left_out_of_each_row(self):
        for row, text in ROWS:
            words = text.split(" ")
            for place in range(min(len(words), 12)):
                less = " ".join(words[:place] + words[place + 1:])
                # of a meeting of three one of two is left
                if row[0] != "meet" or len(words) == 5 or place == 0:
                    self.refuse(read_book, less, 0)

    def test_it_is_not_asked_whether_it_is_right(self):
        for text in ("out 5 7", "meet 9 1000000000 4 4\nmeet 3 1 4 4 4", "off 5 ann\noff 4 ann",
                     "less 5 ann 1000000000", "wait 50 ann 3", f"come 200 7 {PLAIN}\ncome 100 7 {PLAIN}"):
            self.check(read_book(text))

    def test_what_is_no_text(self):
        for thing in odd_things() + [b"off 5 ann", ["off 5 ann"], [], ("off", 5, "ann"), [("off", 5, "ann")], 0, 7]:
            self.refuse(read_book, thing, 0)
        for name, deep in deep_things():
            self.refuse(read_book, deep, 0, name)

    def test_drawn_books(self):
        for seed in range(500, 520):
            draw = Draw(seed)
            slow = SlowHouse(*draw.made_of())
            for deed in draw.deeds:
                do(slow, deed)
            self.check(slow.rows)

    def test_what_is_handed_in_stays_and_what_is_told_is_new(self):
        book = [row for row, text in ROWS]
        kept = copy.deepcopy(book)
        text = book_text(book)
        self.assertEqual(book, kept)
        told = read_book(text)
        told.clear()
        self.assertEqual(read_book(text), kept)
        read_book("").append(7)
        self.assertEqual(read_book(""), [])

    def test_by_name(self):
        self.assertEqual(read_book(text=book_text(book=[("off", 5, "ann")])), [("off", 5, "ann")])


if __name__ == "__main__":
    unittest.main()
