"""The judge: 8.1, and what 0.2 says of it."""

import collections
import copy
import unittest

from matepoint import errors
from matepoint.house import House
from matepoint.judge import judged
from tests.drawn import Draw, SlowHouse, do, is_refused
from tests.things import deep_things, odd_things, offer

MADE_OF = ((), ("wood",), ((10, 20), (60, 70)))
ANN, BOB, DAN = offer("give", "ann", many=10), offer("take", "bob", many=4), offer("take", "dan", many=3)
EVE, ZOE = offer("give", "eve", till=16), offer("take", "zoe", till=40)
LESS_ANN = offer("give", "ann", many=8, till=50)
WOOD = [offer("give", "a", "wood", till=80), offer("take", "b", "wood", many=5, till=80),
        offer("bear", "c", "wood", till=80)]
BOOK = [
    ("come", 5, ANN, 0),
    ("come", 5, BOB, 1),
    ("meet", 5, (0, 1), 4),
    ("come", 12, DAN, 2),
    ("wait", 12, "dan", 90),
    ("less", 13, "ann", 5),
    ("come", 14, EVE, 3),
    ("out", 16, 3),
    ("meet", 20, (0, 2), 3),
    ("change", 21, LESS_ANN, 4),
    ("off", 22, "ann"),
    ("come", 30, ZOE, 5),
    ("out", 40, 5),
    ("come", 61, WOOD[0], 6),
    ("come", 61, WOOD[1], 7),
    ("come", 62, WOOD[2], 8),
    ("meet", 70, (6, 7, 8), 5),
    ("out", 80, 6),
    ("out", 80, 8),
]
WORDS = {"come": 4, "off": 3, "change": 4, "less": 4, "wait": 4, "meet": 4, "out": 3}


def put(book, at, row):
    """The book with another row at that place."""
    return book[:at] + [row] + book[at + 1:]


def changed(row, at, part):
    """The row with another part at that place."""
    return row[:at] + (part,) + row[at + 1:]


def slowly_judged(made_of, book):
    """What 8.1 tells of a book, by the slow house; its times must not be great."""
    house = SlowHouse(*made_of)
    for at, row in enumerate(book):
        if len(house.rows) == at:
            if type(row) is not tuple or not row or type(row[0]) is not str or len(row) != WORDS.get(row[0]):
                return at
            deed = row if row[0] in ("off", "less", "wait") else row[:3] if row[0] in ("come", "change") else None
            if is_refused(do(house, deed or ("come_to", row[1]))):
                return at
        if len(house.rows) == at or repr(house.rows[at]) != repr(row):
            return at
    return None


class JudgeTest(unittest.TestCase):
    def check(self, book, expected, made_of=MADE_OF, name=None):
        with self.subTest(name or f"{book}"):
            for again in range(2):
                told = judged(*made_of, book)
                self.assertEqual(told, expected)
                self.assertIs(type(told), type(expected))

    def test_bad_rule_is_told_first(self):
        for at, thing in ((0, ["heavy"]), (0, ("light",)), (1, ("any",)), (1, None), (2, ((3, 3),)), (2, "3-7")):
            for book in (BOOK, [], None, (), "come"):
                made_of = list(MADE_OF)
                made_of[at] = thing
                with self.subTest((thing, book)), self.assertRaises(errors.BadRule):
                    judged(*made_of, book)

    def test_bad_book_where_it_is_no_list(self):
        for book in [thing for thing in odd_things() if not isinstance(thing, list)] + [tuple(BOOK), "", "come", 0, 7]:
            with self.subTest(repr(book)[:50]), self.assertRaises(errors.BadBook):
                judged(*MADE_OF, book)
        for name, deep in deep_things():
            if not isinstance(deep, list):
                with self.subTest(name), self.assertRaises(errors.BadBook):
                    judged(*MADE_OF, deep)

    def test_the_slow_judge_finds_the_same_book_right(self):
        self.assertIsNone(slowly_judged(MADE_OF, BOOK))
        house = House(*MADE_OF)
        for row in BOOK:
            if row[0] not in ("meet", "out"):
                do(house, row[:3] if row[0] in ("come", "change") else row)
        house.come_to(100)
        self.assertEqual(house.book(), BOOK)

    def test_a_right_book_and_each_of_its_beginnings(self):
        for many in range(len(BOOK) + 1):
            self.check(BOOK[:many], None)

    def test_by_another_rule_other_kinds_borne_or_quiet_times(self):
        self.check(BOOK, 4, ((), ("wood",), ((10, 12), (60, 70))))
        self.check(BOOK, 4, ((), ("wood",), ()))
        self.check(BOOK, 8, ((), ("wood",), ((10, 21), (60, 70))))
        self.check(BOOK, None, (("heavy", "soon"), ("wood",), ((10, 20), (60, 70))))
        self.check(BOOK, 2, ((), ("bread", "wood"), ((10, 20), (60, 70))))
        self.check(BOOK, 16, ((), (), ((10, 20), (60, 70))))
        self.check(BOOK, 2, ((), ("wood",), ((5, 20), (60, 70))))

    def test_each_part_of_each_row_of_another_kind(self):
        others = odd_things() + ["", "x", -1, 10 ** 9 + 1, [], 10 ** 30]
        for at, row in enumerate(BOOK):
            for place in range(len(row)):
                for other in others + [[row[place]], (row[place],), str(row[place]) + " ", None]:
                    self.check(put(BOOK, at, changed(row, place, other)), at, name=f"{at} {place} {other!r}")

    def test_truths_and_broken_numbers_for_numbers_that_are_as_great(self):
        book = [("come", 0, offer("give", "a", many=1, till=1), 0), ("come", 0, offer("take", "b", many=1), 1),
                ("meet", 0, (0, 1), 1), ("come", 1, offer("take", "c", many=2), 2), ("less", 1, "c", 1),
                ("wait", 1, "c", 2), ("out", 2, 2)]
        self.check(book, None, ((), (), ()))
        for kind in (bool, float):
            for at, place in ((0, 1), (0, 3), (1, 1), (1, 3), (2, 1), (2, 3), (3, 1), (4, 1), (4, 3), (5, 1)):
                row = book[at]
                self.check(put(book, at, changed(row, place, kind(row[place]))), at, ((), (), ()), f"{at} {place}")
            for numbers in ((kind(0), 1), (0, kind(1)), [0, 1], (0, 1, 2), (0,), 0, ((0, 1),)):
                self.check(put(book, 2, ("meet", 0, numbers, 1)), 2, ((), (), ()))
        self.check(put(book, 6, ("out", 2.0, 2)), 6, ((), (), ()))
        self.check(put(book, 6, ("out", 2, 2.0)), 6, ((), (), ()))
        only = [("come", 0, offer("give", "a", till=1), 0), ("out", 1, 0)]
        self.check(only, None, ((), (), ()))
        self.check([only[0], ("out", True, 0)], 1, ((), (), ()))
        self.check([only[0], ("out", 1, False)], 1, ((), (), ()))
        for one in (offer("give", "a", many=True), offer("give", "a", weight=False), offer("give", "a", till=True)):
            self.check([("come", 0, one, 0)], 0, ((), (), ()))

    def test_rows_that_are_no_rows(self):
        for at, row in enumerate(BOOK):
            words = ["", row[0].upper(), "meeting", row[0].encode(), "house", "come_to", (row[0],), 0]
            others = [(word,) + row[1:] for word in words] + [
                list(row), row[:-1], row + (1,), row[1:], (row,), [row], row[0], (row[0],), (), [], None, row * 2,
                dict(enumerate(row)), ("to", row[1]), ("come_to", row[1])]
            for other in others + odd_things():
                self.check(put(BOOK, at, other), at, name=f"{at} {other!r}")
                self.check(BOOK[:at] + [other], at, name=f"{at} {other!r}")
            for word in WORDS:
                if word != row[0]:
                    self.check(put(BOOK, at, (word,) + row[1:]), at, name=f"{at} {word}")

    def test_deep_things(self):
        for name, deep in deep_things():
            self.check([deep], 0, name=name)
            for at, row in enumerate(BOOK):
                self.check(put(BOOK, at, deep), at, name=name)
                for place in range(len(row)):
                    self.check(put(BOOK, at, changed(row, place, deep)), at, name=name)

    def test_parts_of_offers(self):
        for at in (0, 1, 3, 6, 9):
            row = BOOK[at]
            for place in range(7):
                for other in (None, True, [], list(row[2]), "bring", -1, 10 ** 10):
                    self.check(put(BOOK, at, changed(row, 2, changed(row[2], place, other))), at)
            self.check(put(BOOK, at, changed(row, 2, changed(row[2], 1, list(row[2][1])))), at)
            self.check(put(BOOK, at, changed(row, 2, changed(row[2], 2, ["any"]))), at)

    def test_rows_of_deeds_that_would_be_refused(self):
        early = [("come", 5, ANN, 0), ("come", 6, EVE, 1)]
        for row in (
                ("come", 4, DAN, 2), ("come", 6, ANN, 2), ("come", 6, offer("take", "dan", till=6), 2),
                ("come", 6, offer("take", "dan", till=5), 2), ("off", 6, "dan"), ("off", 5, "ann"), ("off", 6, ""),
                ("change", 6, DAN, 2), ("change", 6, offer("give", "ann", till=6), 2), ("change", 5, ANN, 2),
                ("less", 6, "ann", 10), ("less", 6, "ann", 11), ("less", 6, "ann", 0), ("less", 6, "ann", -1),
                ("less", 5, "ann", 3), ("less", 6, "dan", 1), ("wait", 6, "ann", 6), ("wait", 6, "ann", 0),
                ("wait", 6, "dan", 90), ("wait", 5, "ann", 90), ("wait", 6, "ann", 10 ** 9 + 1)):
            self.check(early + [row], 2)
            self.check(early + [row, ("off", 6, "ann")], 2)
        for row in (("come", 6, offer("bear", "dan"), 2), ("off", 6, "ann"), ("change", 6, ANN, 2),
                    ("less", 6, "ann", 9), ("wait", 6, "ann", 7), ("wait", 6, "ann", 10 ** 9)):
            self.check(early + [row], None)

    def test_the_thirty_first_that_waits(self):
        names = [first + second for first in "abcd" for second in "abcdefgh"]
        book = [("come", 0, offer("give", names[at]), at) for at in range(31)]
        self.check(book, 30)
        self.check(book[:30], None)

    def test_another_number(self):
        for at, row in enumerate(BOOK):
            if row[0] in ("come", "change"):
                for number in (row[3] + 1, row[3] - 1, 99):
                    self.check(put(BOOK, at, changed(row, 3, number)), at)

    def test_a_time_up_to_which_the_house_writes_other_rows_first(self):
        book = [("come", 12, ANN, 0), ("come", 12, DAN, 1), ("come", 14, EVE, 2)]
        for row in (("come", 16, BOB, 3), ("off", 16, "ann"), ("wait", 17, "ann", 99), ("less", 20, "ann", 2),
                    ("change", 25, ANN, 3), ("meet", 20, (0, 1), 3), ("out", 100, 0)):
            self.check(book + [row], 3)
        book.append(("out", 16, 2))
        for row in (("come", 20, BOB, 3), ("off", 20, "ann"), ("wait", 21, "ann", 99), ("out", 100, 0)):
            self.check(book + [row], 4)
        self.check(book + [("come", 19, BOB, 3), ("meet", 20, (0, 1), 3), ("meet", 20, (0, 3), 4)], None)

    def test_meetings_and_outs_that_are_not_the_next(self):
        book = [("come", 12, ANN, 0), ("come", 12, DAN, 1), ("come", 14, EVE, 2), ("out", 16, 2)]
        self.check(book + [("meet", 20, (0, 1), 3), ("out", 100, 0)], None)
        for row in (("meet", 19, (0, 1), 3), ("meet", 21, (0, 1), 3), ("meet", 20, (1, 0), 3), ("meet", 20, (0, 1), 2),
                    ("meet", 20, (0, 1), 4), ("meet", 20, (0, 1, 2), 3), ("meet", 16, (0, 1), 3), ("out", 20, 0),
                    ("out", 16, 1), ("out", 16, 2), ("out", 100, 1), ("meet", 10 ** 9, (0, 1), 3)):
            self.check(book + [row], 4)
        met = book + [("meet", 20, (0, 1), 3)]
        for row in (("meet", 20, (0, 1), 3), ("out", 100, 1), ("out", 99, 0), ("out", 101, 0), ("out", 20, 0)):
            self.check(met + [row], 5)
        self.check([("out", 5, 0)], 0)
        self.check([("meet", 5, (0, 1), 1)], 0)

    def test_behind_the_last_deed(self):
        book = [("come", 12, ANN, 0), ("come", 12, DAN, 1), ("come", 12, BOB, 2)]
        behind = [("meet", 20, (0, 1), 3), ("meet", 20, (0, 2), 4), ("out", 100, 0)]
        for many in range(4):
            self.check(book + behind[:many], None)
        for many in range(3):
            self.check(book + behind[:many] + behind[many + 1:], many + 3 if many < 2 else None)
        self.check(book + behind + [("come", 100, offer("take", "new", till=101), 3)], None)
        self.check(book + behind + [("come", 99, offer("take", "new", till=101), 3)], 6)

    def test_rows_that_are_due_and_left_out(self):
        due = [at for at, row in enumerate(BOOK) if row[0] in ("meet", "out")]
        self.assertEqual(due, [2, 7, 8, 12, 16, 17, 18])
        for at in due[:-1]:
            self.check(BOOK[:at] + BOOK[at + 1:], at)
        self.check(BOOK[:-1], None)

    def test_outs_at_one_moment_by_rising_numbers(self):
        book = BOOK[:17] + [BOOK[18], BOOK[17]]
        self.check(book, 17)

    def test_rows_told_twice(self):
        # dan may be told twice to wait as long
        for at in range(len(BOOK)):
            self.check(BOOK[:at + 1] + BOOK[at:], None if at == 4 else at + 1)

    def test_rows_moved(self):
        for at, row in enumerate(BOOK):
            for to in range(len(BOOK)):
                rest = BOOK[:at] + BOOK[at + 1:]
                moved = rest[:to] + [row] + rest[to:]
                self.check(moved, slowly_judged(MADE_OF, moved))

    def test_each_part_changed_to_another_one_that_could_be(self):
        told = collections.Counter()
        numbers = [0, 1, 2, 3, 4, 5, 6, 7, 8, 9, 12, 13, 14, 16, 20, 21, 22, 30, 40, 50, 61, 70, 80, 90, 100]
        offers = [ANN, BOB, DAN, EVE, ZOE, LESS_ANN] + WOOD
        others = numbers + offers + ["ann", "bob", "dan", "eve", "zoe"] + [(0, 1), (1, 0), (0, 2), (6, 7), (6, 7, 8)]
        for at, row in enumerate(BOOK):
            for place in range(1, len(row)):
                for other in others:
                    book = put(BOOK, at, changed(row, place, other))
                    expected = slowly_judged(MADE_OF, book)
                    self.check(book, expected)
                    told["right" if expected is None else "at" if expected == at else "behind"] += 1
        self.assertGreater(min(told["right"], told["at"], told["behind"]), 20)

    def test_drawn_books_with_one_row_of_another(self):
        told = collections.Counter()
        for seed in range(400, 412):
            draw = Draw(seed, many=10, bad=False)
            slow = SlowHouse(*draw.made_of())
            for deed in draw.deeds + [("come_to", 200)]:
                do(slow, deed)
            book = slow.rows
            for at in range(len(book) + 1):
                left_out, twice = book[:at] + book[at + 1:], book[:at] + book[at - 1:]
                put_in = [book[:at] + [row] + book[at:] for row in book[:at + 3]]
                instead = [put(book, at, row) for row in book]
                for other in [left_out, twice] + put_in + instead:
                    expected = slowly_judged(draw.made_of(), other)
                    self.check(other, expected, draw.made_of(), f"{seed} {at}")
                    told["right" if expected is None else "at" if expected == at else "behind"] += 1
        self.assertGreater(min(told["right"], told["at"], told["behind"]), 100)

    def test_great_times(self):
        book = [("come", 0, offer("give", "a", till=10 ** 9), 0), ("out", 10 ** 9, 0)]
        self.check(book, None)
        self.check(book + [("come", 10 ** 9, ANN, 1)], 2)
        self.check([("come", 10 ** 9, ANN, 0)], 0)

    def test_the_book_is_not_changed(self):
        book = copy.deepcopy(BOOK)
        judged(*MADE_OF, book)
        self.assertEqual(book, BOOK)
        wrong = [["come", 5, [1]], {"come": 5}]
        judged(*MADE_OF, wrong)
        self.assertEqual(wrong, [["come", 5, [1]], {"come": 5}])

    def test_by_name(self):
        self.assertIsNone(judged(book=BOOK, quiet=MADE_OF[2], borne=MADE_OF[1], rule=MADE_OF[0]))


if __name__ == "__main__":
    unittest.main()
