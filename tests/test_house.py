"""The house: 7.1 to 7.6, and what 0.2 says of it."""

import copy
import unittest

from matepoint import errors
from matepoint.house import House, are_quiet
from matepoint.offers import why_none
from matepoint.rows import rest_paper
from tests.drawn import do, told_of
from tests.things import Chance, deep_things, odd_things, offer

TOP = 10 ** 9
EIGHT = tuple((at, at + 5) for at in range(0, 80, 10))
NO_TIMES = odd_things() + ["3", -1, TOP + 1, 10 ** 30, 3.0, (3,), [3]]
ANN, BOB, CAT = offer("give", "ann", many=10), offer("take", "bob", many=4), offer("bear", "cat", many=3)


class QuietTest(unittest.TestCase):
    def check(self, thing, truth, name=None):
        with self.subTest(name or repr(thing)):
            self.assertIs(are_quiet(thing), truth)
            self.assertIs(are_quiet(thing), truth)

    def test_none_to_nine_times(self):
        for many in range(9):
            self.check(EIGHT[:many], True)
        self.check(EIGHT + ((90, 95),), False)
        self.check(EIGHT * 2, False)

    def test_begin_and_end(self):
        self.check(((3, 4),), True)
        self.check(((3, 3),), False)
        self.check(((4, 3),), False)
        self.check(((0, TOP),), True)
        self.check(((0, 1),), True)
        self.check(((TOP - 1, TOP),), True)
        self.check(((0, TOP + 1),), False)
        self.check(((TOP, TOP + 1),), False)
        self.check(((-1, 3),), False)

    def test_each_begin_above_the_end_ahead(self):
        self.check(((3, 7), (8, 9)), True)
        self.check(((3, 7), (7, 9)), False)
        self.check(((3, 7), (6, 9)), False)
        self.check(((3, 7), (3, 7)), False)
        self.check(((8, 9), (3, 7)), False)
        for at in range(1, 8):
            begin, end = EIGHT[at - 1]
            self.check(EIGHT[:at] + ((end, end + 2),) + EIGHT[at + 1:], False)
            self.check(EIGHT[:at] + ((end + 1, end + 2),) + EIGHT[at + 1:], True)
            self.check(EIGHT[:at] + ((begin, end),) + EIGHT[at + 1:], False)

    def test_other_kinds_at_any_place(self):
        for thing in NO_TIMES:
            self.check(((thing, 7),), False)
            self.check(((3, thing),), False)
            self.check((thing,), False)
            self.check(((3, 7), thing), False)
            self.check(((3, 7), (8, thing)), False)
            self.check(((3, 7), (thing, 9)), False)
        for thing in ([3, 7], (3,), (3, 7, 9), (), "37", {3: 7}, {3, 7}):
            self.check((thing,), False)
            self.check((thing, (8, 9)), False)

    def test_truths_are_no_numbers(self):
        self.check(((False, 7),), False)
        self.check(((0, True),), False)
        self.check(((0, 1),), True)

    def test_what_is_no_tuple(self):
        for thing in [thing for thing in NO_TIMES if thing != ()] + [[], [(3, 7)], "", {}, {(3, 7)}, {(3, 7): 1}]:
            self.check(thing, False)

    def test_deep_things(self):
        for name, deep in deep_things():
            for thing in (deep, (deep,), ((deep, 3),), ((3, deep),), ((3, 7), (8, deep))):
                self.check(thing, False, name)

    def test_by_name(self):
        self.assertIs(are_quiet(thing=((3, 7),)), True)


class MadeTest(unittest.TestCase):
    def test_a_new_house(self):
        for made_of in (((), (), ()), (("heavy", "great", "soon"), ("a", "b", "c", "d"), EIGHT)):
            house = House(*made_of)
            self.assertEqual(told_of(house), (None, [], [], [], [], True, []))
            self.assertEqual(house.rest(), {})

    def test_bad_rule_of_each_of_the_three(self):
        others = [thing for thing in odd_things() if thing != ()] + [[], "", "heavy", 0, 7, {}, -1, [("heavy",)]]
        rules = others + [("light",), ("heavy", "heavy"), ("heavy", "great", "small", "soon"), ["heavy"], (["heavy"],)]
        bornes = others + [("any",), ("a", "a"), ("a", "b", "c", "d", "e"), ["a"], ("abcdefghi",), ("A",), (7,)]
        quiets = others + [((7, 3),), ((3, 7), (7, 9)), EIGHT + ((90, 91),), [(3, 7)], ([3, 7],), (3, 7), ((0, True),)]
        for at, wrong in enumerate((rules, bornes, quiets)):
            for thing in wrong + [deep for name, deep in deep_things()]:
                made_of = [("soon",), ("bread",), ((3, 7),)]
                made_of[at] = thing
                with self.subTest(at), self.assertRaises(errors.BadRule):
                    House(*made_of)
        with self.assertRaises(errors.BadRule):
            House(None, None, None)

    def test_by_name(self):
        house = House(quiet=((3, 7),), borne=("bread",), rule=("soon",))
        house.come(time=4, offer=ANN)
        house.come(offer=BOB, time=4)
        house.change(time=4, offer=BOB)
        house.less(time=5, name="ann", many=9)
        house.wait(time=5, name="ann", till=50)
        house.off(time=6, name="bob")
        house.come_to(time=7)
        self.assertEqual(house.would(time=7, offer=CAT), [("come", 7, CAT, 3)])
        self.assertEqual((house.left(number=0), house.end(number=1)), (9, ("changed", 4)))
        self.assertEqual(house.offer(number=0), ANN[:6] + (50,))


class TimeTest(unittest.TestCase):
    """How a house comes to a time."""

    def check(self, house, rows, now):
        self.assertEqual(house.book(), rows)
        self.assertEqual(house.now(), now)

    def test_ahead_of_at_and_behind_a_till(self):
        for time, out in ((99, []), (100, [("out", 100, 0)]), (101, [("out", 100, 0)]), (TOP, [("out", 100, 0)])):
            house = House((), (), ())
            house.come(5, ANN)
            house.come_to(time)
            self.check(house, [("come", 5, ANN, 0)] + out, time)
            self.assertEqual(house.end(0), ("out", 100) if out else None)
            self.assertEqual(house.waiters(), [] if out else [(0, ANN, 10)])

    def test_several_moments_in_one_step_and_outs_by_rising_numbers(self):
        house = House(("heavy",), (), ())
        tills = (30, 20, 30, 10, 20, 31)
        come = [("come", 0, offer("give", "abcdef"[at], weight=at, till=till), at) for at, till in enumerate(tills)]
        for row in come:
            house.come(0, row[2])
        outs = [("out", 10, 3), ("out", 20, 1), ("out", 20, 4), ("out", 30, 0), ("out", 30, 2)]
        for time, many in ((9, 0), (10, 1), (19, 1), (30, 5)):
            house.come_to(time)
            self.check(house, come + outs[:many], time)
        self.assertEqual(house.row(), [5])

    def test_to_stay_at_a_time(self):
        house = House((), (), ())
        house.come_to(7)
        house.come_to(7)
        self.check(house, [], 7)

    def test_a_house_at_no_time(self):
        for time in (0, 3, 6, 7, 8, TOP):
            house = House((), (), ((3, 7),))
            house.come_to(time)
            self.check(house, [], time)

    def test_ahead_of_at_and_behind_the_end_of_a_quiet_time(self):
        come = [("come", 3, ANN, 0), ("come", 6, BOB, 1)]
        meet = [("meet", 7, (0, 1), 4)]
        for time, met in ((6, []), (7, meet), (8, meet), (50, meet)):
            house = House((), (), ((3, 7), (9, 12)))
            house.come(3, ANN)
            house.come(6, BOB)
            house.come_to(time)
            self.check(house, come + met, time)

    def test_quiet_from_the_begin_on_below_the_end(self):
        for time in (2, 3, 6, 7, 8, 9, 11, 12):
            quiet = time in (3, 6, 9, 11)
            house = House((), (), ((3, 7), (9, 12)))
            house.come(time, ANN)
            house.come(time, BOB)
            self.check(house, [("come", time, ANN, 0), ("come", time, BOB, 1)] +
                       ([] if quiet else [("meet", time, (0, 1), 4)]), time)

    def test_a_till_at_the_end_of_a_quiet_time_is_out_ahead_of_the_settling(self):
        house = House((), (), ((3, 7),))
        first, second = offer("take", "first", till=7), offer("take", "second", many=2, till=8)
        for one in (first, second, ANN):
            house.come(3, one)
        house.come_to(9)
        self.check(house, [("come", 3, first, 0), ("come", 3, second, 1), ("come", 3, ANN, 2), ("out", 7, 0),
                           ("meet", 7, (2, 1), 2)], 9)
        self.assertEqual([house.end(number) for number in range(3)], [("out", 7), ("met", 7), None])

    def test_a_till_within_a_quiet_time(self):
        house = House((), (), ((3, 7),))
        short = offer("take", "short", till=5)
        for one in (short, BOB, ANN):
            house.come(4, one)
        rows = [("come", 4, short, 0), ("come", 4, BOB, 1), ("come", 4, ANN, 2)]
        house.come_to(5)
        self.check(house, rows + [("out", 5, 0)], 5)
        house.come_to(6)
        self.check(house, rows + [("out", 5, 0)], 6)
        house.come_to(7)
        self.check(house, rows + [("out", 5, 0), ("meet", 7, (2, 1), 4)], 7)

    def test_moments_of_both_kinds_in_one_step(self):
        house = House((), (), ((3, 7), (9, 12), (14, 20)))
        early = offer("take", "early", till=6)
        picky = offer("take", "picky", wish=("not", ("by", "ann")), till=13)
        for one in (early, picky, BOB, ANN):
            house.come(4, one)
        house.come_to(30)
        self.assertEqual(house.book()[4:], [("out", 6, 0), ("meet", 7, (3, 2), 4), ("out", 13, 1)])

    def test_who_met_whole_has_no_till_any_more(self):
        house = House((), (), ((3, 7),))
        short = offer("take", "short", many=10, till=8)
        house.come(3, short)
        house.come(3, ANN)
        house.come_to(200)
        self.check(house, [("come", 3, short, 0), ("come", 3, ANN, 1), ("meet", 7, (1, 0), 10)], 200)

    def test_the_deed_comes_behind_what_is_due(self):
        house = House((), (), ((3, 7),))
        house.come(3, ANN)
        house.come(3, BOB)
        late = offer("take", "late", many=6)
        house.come(7, late)
        self.check(house, [("come", 3, ANN, 0), ("come", 3, BOB, 1), ("meet", 7, (0, 1), 4), ("come", 7, late, 2),
                           ("meet", 7, (0, 2), 6)], 7)

    def test_a_name_is_free_again_at_its_till(self):
        house = House((), (), ())
        house.come(0, ANN)
        with self.assertRaises(errors.HasName):
            house.come(99, offer("give", "ann", till=200))
        house.come(100, offer("take", "ann", till=200))
        self.assertEqual(house.book()[1:], [("out", 100, 0), ("come", 100, offer("take", "ann", till=200), 1)])

    def test_the_last_times(self):
        house = House((), (), ((TOP - 2, TOP),))
        house.come(TOP - 1, offer("give", "a", till=TOP))
        house.come(TOP - 1, offer("take", "b", till=TOP))
        house.come_to(TOP)
        self.assertEqual(house.book()[2:], [("out", TOP, 0), ("out", TOP, 1)])


class SettleTest(unittest.TestCase):
    def run_all(self, rule, borne, offers):
        """A house in which the offers come at a quiet time, and what is written when it ends."""
        house = House(rule, borne, ((0, 5),))
        for one in offers:
            house.come(0, one)
        house.come_to(5)
        return house, house.book()[len(offers):]

    def test_several_meetings_of_two_with_parts(self):
        takers = [offer("take", "bcdef"[at], many=many) for at, many in enumerate((4, 1, 3, 9, 2))]
        house, rows = self.run_all((), (), [ANN] + takers)
        self.assertEqual(rows, [("meet", 5, (0, 1), 4), ("meet", 5, (0, 2), 1), ("meet", 5, (0, 3), 3),
                                ("meet", 5, (0, 4), 2)])
        self.assertEqual([house.left(number) for number in range(6)], [0, 0, 0, 0, 7, 2])
        self.assertEqual(house.waiters(), [(4, takers[3], 7), (5, takers[4], 2)])
        self.assertEqual([house.end(number) for number in range(6)], [("met", 5)] * 4 + [None] * 2)
        self.assertEqual(house.meetings(), [row[1:] for row in rows])

    def test_several_meetings_of_three(self):
        offers = [offer("give", "a", many=5), offer("take", "b", many=3), offer("bear", "c", many=2),
                  offer("bear", "d", many=9), offer("take", "e", many=9)]
        house, rows = self.run_all((), ("bread",), offers)
        self.assertEqual(rows, [("meet", 5, (0, 1, 2), 2), ("meet", 5, (0, 1, 3), 1), ("meet", 5, (0, 4, 3), 2)])
        self.assertEqual([house.left(number) for number in range(5)], [0, 0, 0, 6, 7])
        self.assertEqual(house.row(), [3, 4])

    def test_the_row_changes_from_meeting_to_meeting(self):
        # by great: the giver meets whoever has most left just then
        offers = [ANN, offer("take", "b", many=4), offer("give", "c", many=3), offer("take", "d", many=5)]
        house, rows = self.run_all(("great",), (), offers)
        self.assertEqual(rows, [("meet", 5, (0, 3), 5), ("meet", 5, (0, 1), 4)])
        self.assertEqual(house.waiters(), [(0, ANN, 1), (2, offers[2], 3)])
        self.assertEqual(house.row(), [2, 0])

    def test_a_part_that_was_too_little_is_enough_later(self):
        # ann gives no less than four while she has so many; once but three are left of her she gives those
        offers = [offer("give", "ann", many=10, least=4), offer("take", "b", many=3), offer("take", "c", many=7)]
        house, rows = self.run_all((), (), offers)
        self.assertEqual(rows, [("meet", 5, (0, 2), 7), ("meet", 5, (0, 1), 3)])

    def test_kinds_and_bearers_where_none_are_borne(self):
        offers = [ANN, offer("take", "b", "wood"), CAT, offer("bear", "d", "wood"), offer("take", "e", many=2)]
        house, rows = self.run_all((), ("wood",), offers)
        self.assertEqual(rows, [("meet", 5, (0, 4), 2)])

    def test_nothing_at_quiet_times(self):
        house = House((), (), ((0, 50),))
        for deed in (("come", 0, ANN), ("come", 1, BOB), ("change", 2, BOB), ("less", 3, "ann", 5),
                     ("wait", 4, "bob", 60), ("come", 5, CAT), ("off", 6, "cat"), ("come_to", 7)):
            do(house, deed)
            self.assertEqual(house.meetings(), [])
        self.assertEqual(len(house.book()), 7)
        house.come_to(50)
        self.assertEqual(house.meetings(), [(50, (0, 2), 4)])

    def test_at_once_at_other_times(self):
        house = House((), (), ())
        told = [house.come(1, ANN), house.come(1, BOB), house.come(2, offer("take", "dan", many=5))]
        self.assertEqual(told, [0, 1, 2])
        self.assertEqual(house.meetings(), [(1, (0, 1), 4), (2, (0, 2), 5)])
        self.assertEqual(house.left(0), 1)


class RefusalTest(unittest.TestCase):
    """What each deed is refused with, in which order, and what stays."""

    def made(self, now=True):
        """A house with ann, bob and dan waiting; eve is out at 20, and at 30 dan and ann meet."""
        house = House((), (), ((10, 30),))
        if now:
            house.come(10, offer("give", "ann"))
            house.come(10, offer("take", "bob", wish=("by", "zoe"), many=5))
            house.come(11, offer("take", "dan", many=2))
            house.come(12, offer("give", "eve", till=20))
        return house

    def refuse(self, house, deed, refusal, written=(), now=None):
        """Hold that the deed is refused, and nothing is changed but that the rows are written up to now."""
        before = told_of(house)
        waiting = house.now()
        with self.subTest(deed), self.assertRaises(errors.MateError) as caught:
            getattr(house, deed[0])(*deed[1:])
        self.assertIs(type(caught.exception), refusal)
        if refusal is errors.BadTime:
            self.assertEqual(caught.exception.last, waiting)
        self.assertEqual(house.book(), before[-1] + list(written))
        if now is None:
            self.assertEqual(repr(told_of(house)), repr(before))
        else:
            self.assertEqual(house.now(), now)

    def test_bad_offer_is_told_first(self):
        good = offer("give", "new")
        wrong = odd_things() + [deep for name, deep in deep_things()] + [
            list(good), good[:6], good + (1,), ("bring",) + good[1:], good[:3] + (0,) + good[4:],
            good[:4] + (10,) + good[5:], good[:6] + (TOP + 1,), good[:6] + (True,), good[:5] + (1001, 9), "give", 7,
        ]
        for house in (self.made(), self.made(False)):
            for thing in wrong:
                for time in (50, 5, None, "x"):
                    for word in ("come", "change", "would"):
                        self.refuse(house, (word, time, thing), errors.BadOffer)

    def test_bad_time_is_told_next(self):
        for house in (self.made(), self.made(False)):
            past = [0, 11] if house.now() else []
            for time in NO_TIMES + [deep for name, deep in deep_things()] + past:
                for name in ("ann", "zoe", None):
                    self.refuse(house, ("off", time, name), errors.BadTime)
                    self.refuse(house, ("less", time, name, None), errors.BadTime)
                    self.refuse(house, ("wait", time, name, 60), errors.BadTime)
                for word in ("come", "change", "would"):
                    self.refuse(house, (word, time, offer("give", "ann")), errors.BadTime)
                    self.refuse(house, (word, time, offer("give", "zoe", till=0)), errors.BadTime)
                self.refuse(house, ("come_to", time), errors.BadTime)

    def test_bad_time_of_the_till_in_wait(self):
        for house in (self.made(), self.made(False)):
            for till in NO_TIMES + [deep for name, deep in deep_things()]:
                for time in (50, 3, None):
                    for name in ("ann", "zoe", None):
                        self.refuse(house, ("wait", time, name, till), errors.BadTime)

    def test_last_is_none_ahead_of_the_first_time(self):
        for deed in (("come_to", -1), ("come", None, ANN), ("wait", 3, "ann", -1), ("off", "3", "ann")):
            house = House((), (), ())
            with self.assertRaises(errors.BadTime) as caught:
                getattr(house, deed[0])(*deed[1:])
            self.assertIsNone(caught.exception.last)
            self.assertIsNone(house.now())

    def test_last_is_the_time_ahead_of_the_deed(self):
        house = self.made()
        with self.assertRaises(errors.BadTime) as caught:
            house.come_to(11)
        self.assertEqual(caught.exception.last, 12)
        house.come_to(12)
        house.come_to(25)
        with self.assertRaises(errors.BadTime) as caught:
            house.wait(90, "ann", None)
        self.assertEqual(caught.exception.last, 25)
        self.assertEqual(house.now(), 25)

    def test_what_was_written_by_coming_to_the_time_stays(self):
        out, met = ("out", 20, 3), ("meet", 30, (0, 2), 2)
        late = ("out", 100, 0), ("out", 100, 1)
        for time, rows in ((12, ()), (15, ()), (20, (out,)), (29, (out,)), (30, (out, met)), (99, (out, met)),
                           (100, (out, met) + late)):
            for deed, refusal in (
                    (("come", time, offer("give", "bob", till=time)), errors.HasName if time < 100 else errors.TooLate),
                    (("come", time, offer("give", "new", till=time)), errors.TooLate),
                    (("off", time, "zoe"), errors.NoName),
                    (("change", time, offer("give", "zoe", till=0)), errors.NoName),
                    (("less", time, "zoe", 0), errors.NoName),
                    (("less", time, "bob", 5), errors.BadMany if time < 100 else errors.NoName),
                    (("wait", time, "zoe", 0), errors.NoName),
                    (("wait", time, "bob", time), errors.TooLate if time < 100 else errors.NoName)):
                house = self.made()
                self.refuse(house, deed, refusal, rows, time)
                other = self.made()
                other.come_to(time)
                self.assertEqual(repr(told_of(house)), repr(told_of(other)))

    def test_has_name(self):
        house = self.made()
        for name in ("ann", "bob", "dan", "eve"):
            for till in (0, 12, 100):
                self.refuse(house, ("come", 12, offer("take", name, "wood", till=till)), errors.HasName)
        house.come(12, offer("take", "anna"))

    def test_has_name_ahead_of_full(self):
        house = self.full()
        self.refuse(house, ("come", 1, offer("give", "a", till=1)), errors.HasName)
        self.refuse(house, ("come", 1, offer("give", "new", till=1)), errors.TooLate)
        self.refuse(house, ("come", 1, offer("give", "new", till=2)), errors.Full)

    def full(self):
        """A house in which thirty wait."""
        house = House((), (), ())
        for at in range(30):
            house.come(1, offer("give", "abcdefghijklmnopqrstuvwxyz"[at % 26] * (1 + at // 26), till=50 + at))
        return house

    def test_full_at_thirty(self):
        house = self.full()
        self.assertEqual(len(house.waiters()), 30)
        self.refuse(house, ("come", 1, offer("take", "new", "wood")), errors.Full)
        self.assertEqual(house.change(1, offer("give", "a", "wood")), 30)
        self.refuse(house, ("come", 1, offer("take", "new", "wood")), errors.Full)
        self.refuse(house, ("would", 49, offer("take", "new", "wood")), errors.Full)
        house.off(1, "b")
        self.assertEqual(house.come(1, offer("bear", "new", "wood")), 31)
        self.refuse(house, ("come", 1, offer("take", "other", "wood")), errors.Full)
        self.assertEqual(house.come(52, offer("bear", "other", "wood")), 32)

    def test_full_though_it_would_meet(self):
        house = self.full()
        self.refuse(house, ("come", 1, offer("take", "new")), errors.Full)

    def test_too_late_at_and_below_the_time(self):
        for till in (0, 11, 12):
            self.refuse(self.made(), ("come", 12, offer("give", "new", till=till)), errors.TooLate)
            self.refuse(self.made(), ("change", 12, offer("give", "ann", till=till)), errors.TooLate)
            self.refuse(self.made(), ("wait", 12, "ann", till), errors.TooLate)
            self.refuse(self.made(), ("would", 12, offer("give", "new", till=till)), errors.TooLate)
        self.assertEqual(self.made().come(12, offer("give", "new", till=13)), 4)
        self.assertEqual(self.made().change(12, offer("give", "ann", till=13)), 4)
        self.assertIsNone(self.made().wait(12, "ann", 13))

    def test_no_name_of_anything(self):
        house = self.made()
        names = ["", "zoe", "ANN", "ann ", "an", b"ann", ["ann"], ("ann",), 0, 3, "any"]
        for name in names + odd_things() + [deep for name, deep in deep_things()]:
            self.refuse(house, ("off", 12, name), errors.NoName)
            for many in (1, 0, None):
                self.refuse(house, ("less", 12, name, many), errors.NoName)
            for till in (50, 0):
                self.refuse(house, ("wait", 12, name, till), errors.NoName)
        self.refuse(house, ("change", 12, offer("give", "zoe")), errors.NoName)

    def test_no_name_of_one_that_ended(self):
        house = self.made()
        house.off(12, "ann")
        self.refuse(house, ("off", 12, "ann"), errors.NoName)
        self.refuse(house, ("change", 12, offer("give", "ann")), errors.NoName)
        self.refuse(house, ("off", 20, "eve"), errors.NoName, [("out", 20, 3)], 20)

    def test_bad_many(self):
        house = self.made()
        for name, left in (("ann", 9), ("bob", 5), ("dan", 2)):
            amounts = [0, -1, left, left + 1, 10 ** 6, "1", 1.0]
            for many in amounts + odd_things() + [deep for word, deep in deep_things()]:
                self.refuse(house, ("less", 12, name, many), errors.BadMany)
        one = House((), (), ())
        one.come(0, offer("give", "a", many=1))
        for many in (0, 1, 2, True):
            self.refuse(one, ("less", 0, "a", many), errors.BadMany)


class DeedTest(unittest.TestCase):
    def test_come(self):
        house = House((), (), ())
        self.assertEqual([house.come(3, ANN), house.come(3, offer("give", "dan")), house.come(4, CAT)], [0, 1, 2])
        self.assertEqual(house.book(), [("come", 3, ANN, 0), ("come", 3, offer("give", "dan"), 1), ("come", 4, CAT, 2)])
        self.assertEqual(house.waiters(), [(0, ANN, 10), (1, offer("give", "dan"), 9), (2, CAT, 3)])

    def test_numbers_go_on_behind_ends_and_refusals(self):
        house = House((), (), ())
        self.assertEqual(house.come(0, ANN), 0)
        self.assertEqual(do(house, ("come", 0, ANN)), "HasName")
        house.off(0, "ann")
        self.assertEqual(house.come(0, ANN), 1)
        self.assertEqual(house.change(0, ANN), 2)
        self.assertEqual(house.come(0, BOB), 3)

    def test_off(self):
        house = House((), (), ())
        house.come(0, ANN)
        house.come(1, BOB)
        self.assertIsNone(house.off(2, "ann"))
        self.assertEqual(house.book()[3:], [("off", 2, "ann")])
        self.assertEqual((house.end(0), house.left(0), house.offer(0)), (("off", 2), 6, ANN))
        house.come_to(500)
        self.assertEqual((house.end(0), len(house.book())), (("off", 2), 4))

    def test_change(self):
        house = House((), (), ())
        house.come(0, ANN)
        house.come(1, BOB)
        new = offer("give", "ann", many=7, till=60)
        self.assertEqual(house.change(2, new), 2)
        self.assertEqual(house.book()[3:], [("change", 2, new, 2)])
        self.assertEqual((house.end(0), house.left(0), house.offer(0)), (("changed", 2), 6, ANN))
        self.assertEqual(house.waiters(), [(2, new, 7)])
        house.come_to(500)
        self.assertEqual(house.book()[4:], [("out", 60, 2)])
        self.assertEqual(house.end(0), ("changed", 2))

    def test_a_change_to_another_kind_and_to_another_side(self):
        house = House((), (), ())
        house.come(0, ANN)
        house.come(0, offer("take", "bob", "wood", many=4))
        house.come(0, offer("give", "dan", many=3))
        self.assertEqual(house.change(1, offer("give", "ann", "wood", many=2)), 3)
        self.assertEqual(house.change(2, offer("take", "bob", many=5)), 4)
        self.assertEqual(house.book()[3:], [
            ("change", 1, offer("give", "ann", "wood", many=2), 3), ("meet", 1, (3, 1), 2),
            ("change", 2, offer("take", "bob", many=5), 4), ("meet", 2, (2, 4), 3)])
        self.assertEqual([house.end(at) for at in range(5)],
                         [("changed", 1), ("changed", 2), ("met", 2), ("met", 1), None])

    def test_a_change_from_give_to_take(self):
        house = House((), (), ())
        house.come(0, offer("give", "ann"))
        house.come(0, offer("give", "dan", many=3))
        self.assertEqual(house.change(5, offer("take", "ann", many=3)), 2)
        self.assertEqual(house.book()[2:], [("change", 5, offer("take", "ann", many=3), 2), ("meet", 5, (1, 2), 3)])

    def test_a_changed_one_stands_behind_in_the_row(self):
        house = House((), (), ())
        for name in ("a", "b", "c"):
            house.come(0, offer("give", name))
        house.change(0, offer("give", "a"))
        self.assertEqual(house.row(), [1, 2, 3])

    def test_less_then_meetings(self):
        house = House((), (), ())
        picky = offer("give", "ann", many=10, least=4)
        house.come(0, picky)
        house.come(0, offer("take", "bob", many=3))
        self.assertEqual(house.meetings(), [])
        self.assertIsNone(house.less(1, "ann", 5))
        self.assertEqual((house.left(0), house.meetings()), (5, []))
        house.less(2, "ann", 3)
        self.assertEqual(house.book()[2:], [("less", 1, "ann", 5), ("less", 2, "ann", 3), ("meet", 2, (0, 1), 3)])
        self.assertEqual((house.left(0), house.offer(0), house.end(0)), (0, picky, ("met", 2)))

    def test_less_by_what_is_left(self):
        house = House((), (), ())
        house.come(0, ANN)
        house.come(0, BOB)
        self.assertEqual(do(house, ("less", 0, "ann", 6)), "BadMany")
        house.less(0, "ann", 5)
        house.less(0, "ann", 1)
        self.assertEqual(do(house, ("less", 0, "ann", 1)), "BadMany")
        self.assertEqual(house.waiters(), [(0, ANN, 1)])

    def test_less_and_the_row(self):
        house = House(("great",), (), ())
        house.come(0, ANN)
        house.come(0, offer("give", "dan", many=9))
        self.assertEqual(house.row(), [0, 1])
        house.less(0, "ann", 8)
        self.assertEqual(house.row(), [1, 0])

    def test_wait_longer_and_shorter(self):
        house = House(("soon",), (), ())
        house.come(0, ANN)
        house.come(0, offer("give", "dan", till=50))
        self.assertEqual(house.row(), [1, 0])
        self.assertIsNone(house.wait(1, "dan", 200))
        self.assertEqual(house.row(), [0, 1])
        self.assertEqual(house.offer(1), offer("give", "dan", till=200))
        self.assertEqual(house.waiters()[1], (1, offer("give", "dan", till=200), 9))
        house.wait(60, "ann", 61)
        house.come_to(300)
        self.assertEqual(house.book(), [
            ("come", 0, ANN, 0), ("come", 0, offer("give", "dan", till=50), 1), ("wait", 1, "dan", 200),
            ("wait", 60, "ann", 61), ("out", 61, 0), ("out", 200, 1)])

    def test_wait_at_the_till_is_too_late(self):
        house = House((), (), ())
        house.come(0, ANN)
        self.assertEqual(do(house, ("wait", 100, "ann", 200)), "NoName")
        self.assertEqual(house.book()[1:], [("out", 100, 0)])

    def test_wait_till_then_meetings(self):
        house = House(("soon",), (), ((0, 50),))
        house.come(0, ANN)
        house.come(0, offer("take", "bob", many=6))
        house.come(0, offer("take", "dan", many=6))
        house.wait(1, "dan", 90)
        house.come_to(60)
        self.assertEqual(house.book()[3:], [("wait", 1, "dan", 90), ("meet", 50, (0, 2), 6), ("meet", 50, (0, 1), 4)])

    def test_come_to_writes_no_row_and_tells_nothing(self):
        house = House((), (), ())
        house.come(0, ANN)
        self.assertIsNone(house.come_to(5))
        self.assertEqual((house.book(), house.now()), ([("come", 0, ANN, 0)], 5))


class ToldTest(unittest.TestCase):
    def made(self):
        house = House((), (), ())
        for deed in (("come", 0, ANN), ("come", 0, BOB), ("come", 1, offer("bear", "dan")),
                     ("come", 1, offer("give", "eve")), ("off", 2, "dan"),
                     ("change", 3, offer("give", "eve", "wood", till=8)), ("wait", 4, "ann", 7), ("come_to", 7)):
            do(house, deed)
        return house

    def test_left_offer_and_end_of_each_number(self):
        house = self.made()
        self.assertEqual([house.left(at) for at in range(5)], [6, 0, 9, 9, 9])
        self.assertEqual([house.offer(at) for at in range(5)],
                         [ANN[:6] + (7,), BOB, offer("bear", "dan"), offer("give", "eve"),
                          offer("give", "eve", "wood", till=8)])
        self.assertEqual([house.end(at) for at in range(5)],
                         [("out", 7), ("met", 0), ("off", 2), ("changed", 3), None])

    def test_no_number_of_anything(self):
        for house, first in ((self.made(), 5), (House((), (), ()), 0)):
            others = [first, first + 1, -1, -5, "0", "", [0], (0,), 0.0]
            for thing in others + odd_things() + [deep for name, deep in deep_things()]:
                for ask in (house.left, house.offer, house.end):
                    with self.subTest(ask.__name__), self.assertRaises(errors.NoNumber):
                        ask(thing)

    def test_rest(self):
        house = House((), (), ((5, 9),))
        self.assertEqual(house.rest(), {})
        picky = offer("take", "bob", wish=("by", "zoe"))
        house.come(0, ANN)
        house.come(0, picky)
        self.assertEqual(house.rest(), {(0, 1): ("wish", 1, 0, (False, None))})
        self.assertEqual(house.rest(), {(0, 1): why_none([(ANN, 10), (picky, 9)])})
        house.come(5, offer("take", "dan"))
        self.assertIsNone(house.rest())
        house.come_to(8)
        self.assertIsNone(house.rest())
        house.come_to(9)
        self.assertEqual(house.rest(), {(0, 1): ("wish", 1, 0, (False, None))})

    def test_rest_at_quiet_times_where_none_could_meet(self):
        house = House((), ("bread",), ((0, 9),))
        house.come(0, ANN)
        house.come(0, BOB)
        self.assertEqual(house.rest(), {})
        house.come(0, offer("bear", "cat", wish=("not", ("by", "bob"))))
        self.assertEqual(house.rest(), {(0, 1, 2): ("wish", 2, 1, (False, (True, None)))})
        house.change(0, CAT)
        self.assertIsNone(house.rest())

    def test_rest_is_the_paper_of_the_waiters(self):
        chance = Chance(71)
        told = []
        for at in range(40):
            house = House((), ("wood",), ((50, 60),))
            for name in "abcdefgh":
                side, kind = chance.dice.choice(("give", "take", "bear")), chance.dice.choice(("bread", "wood"))
                wish = chance.dice.choice((("any",), chance.wish(3)))
                house.come(0 if name < "d" else 55, offer(side, name, kind, wish))
                self.assertEqual(house.rest(), rest_paper(("wood",), house.waiters()))
            told.append(house.rest() is None)
        self.assertGreater(min(told.count(True), told.count(False)), 5)

    def test_what_is_told_is_new(self):
        house = self.made()
        before = told_of(house)
        for told in (house.row, house.meetings, house.waiters, house.book, lambda: house.would(9, BOB)):
            first = told()
            self.assertIs(type(first), list)
            self.assertGreater(len(first), 0)
            self.assertIsNot(first, told())
            first.clear()
            self.assertNotEqual(told(), [])
            first.append(7)
            told().reverse()
            self.assertEqual(repr(told_of(house)), repr(before))
        paper = house.rest()
        self.assertIs(type(paper), dict)
        paper[(0, 1)] = ("kind",)
        self.assertEqual(house.rest(), {})
        self.assertEqual(repr(told_of(house)), repr(before))

    def test_what_is_told_stays_when_more_is_done(self):
        house = self.made()
        told = (house.row(), house.meetings(), house.waiters(), house.book(), house.rest())
        kept = copy.deepcopy(told)
        house.come(7, offer("take", "zoe", "wood", many=20))
        house.come(7, offer("give", "yan", "wood", many=20))
        house.come_to(200)
        self.assertEqual(told, kept)

    def test_what_is_handed_in_is_not_changed(self):
        name, wrong = ["ann"], [ANN, [1, 2]]
        house = self.made()
        for deed in (("off", 7, name), ("less", 7, name, name), ("come", 7, wrong), ("change", wrong, wrong)):
            do(house, deed)
        self.assertEqual((name, wrong), (["ann"], [ANN, [1, 2]]))

    def test_two_houses_have_nothing_in_common(self):
        one, other = House((), (), ()), House((), (), ())
        one.come(0, ANN)
        self.assertEqual(told_of(other), (None, [], [], [], [], True, []))


class WouldTest(unittest.TestCase):
    def test_rows(self):
        house = House((), (), ())
        self.assertEqual(house.would(5, ANN), [("come", 5, ANN, 0)])
        self.assertIsNone(house.now())
        house.come(1, ANN)
        self.assertEqual(house.would(1, BOB), [("come", 1, BOB, 1), ("meet", 1, (0, 1), 4)])
        self.assertEqual(house.would(9, BOB), [("come", 9, BOB, 1), ("meet", 9, (0, 1), 4)])
        self.assertEqual(told_of(house)[:2] + (house.book(),), (1, [0], [("come", 1, ANN, 0)]))

    def test_outs_and_meetings_ahead_of_the_coming(self):
        house = House((), (), ((3, 7),))
        house.come(3, offer("give", "eve", many=9, till=5))
        house.come(3, ANN)
        house.come(3, BOB)
        before = told_of(house)
        new = offer("take", "new", many=20)
        for time, rows in (
                (4, [("come", 4, new, 3)]),
                (5, [("out", 5, 0), ("come", 5, new, 3)]),
                (7, [("out", 5, 0), ("meet", 7, (1, 2), 4), ("come", 7, new, 3), ("meet", 7, (1, 3), 6)]),
                (50, [("out", 5, 0), ("meet", 7, (1, 2), 4), ("come", 50, new, 3), ("meet", 50, (1, 3), 6)])):
            self.assertEqual(house.would(time, new), rows)
            self.assertEqual(repr(told_of(house)), repr(before))

    def test_at_a_quiet_time(self):
        house = House((), (), ((3, 7),))
        house.come(1, ANN)
        self.assertEqual(house.would(3, BOB), [("come", 3, BOB, 1)])
        self.assertEqual(house.would(7, BOB), [("come", 7, BOB, 1), ("meet", 7, (0, 1), 4)])

    def test_refused_as_come_is_and_nothing_changed(self):
        house = House((), (), ())
        house.come(5, offer("give", "ann", till=9))
        before = repr(told_of(house))
        for time, thing in ((3, None), (None, ANN), (4, ANN), (6, ANN), (9, offer("take", "ann", till=9)),
                            (50, offer("give", "zoe", till=50)), (8, offer("give", "zoe", till=7))):
            with self.subTest((time, thing)):
                told = do(house, ("would", time, thing))
                self.assertEqual(repr(told_of(house)), before)
                other = House((), (), ())
                other.come(5, offer("give", "ann", till=9))
                self.assertEqual(told, do(other, ("come", time, thing)))
                self.assertIn(told, ("BadOffer", ("BadTime", 5), "HasName", "TooLate"))

    def test_a_name_that_is_free_at_that_time(self):
        house = House((), (), ())
        house.come(5, offer("give", "ann", till=9))
        again = offer("give", "ann", till=20)
        self.assertEqual(do(house, ("would", 8, again)), "HasName")
        self.assertEqual(house.would(9, again), [("out", 9, 0), ("come", 9, again, 1)])
        self.assertEqual(house.waiters(), [(0, offer("give", "ann", till=9), 9)])


if __name__ == "__main__":
    unittest.main()
