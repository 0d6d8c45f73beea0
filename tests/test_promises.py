"""The nine promises of 0.3, over drawn rows of deeds."""

import collections
import random
import unittest

from matepoint.house import House
from matepoint.judge import judged
from matepoint.offers import part, why_none
from matepoint.rows import rest_holds
from matepoint.texts import book_text, read_book
from matepoint.wishes import lets
from tests.drawn import SIDES, Draw, Replay, SlowHouse, do, is_quiet, is_refused, reached, told_of

DRAWS = [Draw(seed) for seed in range(100)]
PLAIN_DRAWS = [Draw(seed, many=50, bad=False) for seed in range(200, 260)]
KIND_DRAWS = [Draw(seed, many=60, kinds=("bread", "wood", "stone"), keep_kinds=True, bad=False)
              for seed in range(300, 350)]


def house_of(draw, deeds=None):
    """A house of the draw in which the deeds were done, or refused."""
    house = House(*draw.made_of())
    for deed in draw.deeds if deeds is None else deeds:
        do(house, deed)
    return house


def whose(house, deed):
    """Do a deed; tell the number of the coming whose deed it was, None where it was refused or nobody's."""
    do(house, ("come_to", deed[1]))
    waiting = {offer[1][0]: number for number, offer, left in house.waiters()}
    told = do(house, deed)
    if is_refused(told) or deed[0] == "come_to":
        return None
    return waiting[deed[2]] if told is None else told


def owned_deeds(draw):
    """A house of the draw, and its deeds, each with the number of the coming whose deed it was.

    Instead of a deed that was refused the house is let come to its time.
    """
    house = House(*draw.made_of())
    deeds = [(deed, whose(house, deed)) for deed in draw.deeds]
    return house, [(("come_to", deed[1]) if number is None else deed, number) for deed, number in deeds]


def comings(house):
    """The numbers of all that came or were changed to."""
    return [row[3] for row in house.book() if row[0] in ("come", "change")]


def ends(house):
    """The end of each number, with what was left."""
    return [(house.end(number), house.left(number)) for number in comings(house)]


def sets_that_could_be(draw, waiters):
    """Each giver, taker and, in borne kinds, bearer of one kind who wait and can meet."""
    told = []
    for giver in waiters:
        for taker in waiters:
            kind = giver[1][1][1]
            bearers = [one for one in waiters if one[1][0] == "bear" and one[1][1][1] == kind]
            if giver[1][0] == "give" and taker[1][0] == "take" and taker[1][1][1] == kind:
                some = [[giver, taker, one] for one in bearers] if kind in draw.borne else [[giver, taker]]
                told += [one for one in some if part([(offer, left) for number, offer, left in one]) > 0]
    return told


class SlowTest(unittest.TestCase):
    """FIRST, ENDS and all else: against a house that goes through each time and tries all with all."""

    def test_each_deed_brings_what_it_brings_in_the_slow_house(self):
        seen = collections.Counter()
        for at, draw in enumerate(DRAWS + PLAIN_DRAWS):
            house, slow = House(*draw.made_of()), SlowHouse(*draw.made_of())
            for deed in draw.deeds:
                with self.subTest(f"{at} {deed}"):
                    told = do(house, deed)
                    self.assertEqual(repr(told), repr(do(slow, deed)))
                    self.assertEqual(repr(told_of(house)), repr(slow.told()))
                seen[told[0] if isinstance(told, tuple) else told if is_refused(told) else deed[0]] += 1
            seen.update([f"meet {len(row[2])}" if row[0] == "meet" else row[0] for row in house.book()])
        common = ("come", "off", "change", "less", "wait", "come_to", "BadOffer", "BadTime", "HasName", "NoName",
                  "TooLate", "BadMany", "meet 2", "meet 3", "out")
        self.assertEqual([word for word in common if seen[word] < 50], [])


class FitTest(unittest.TestCase):
    def check_meeting(self, draw, offers, lefts, numbers, amount):
        self.assertEqual([offers[number][0] for number in numbers], list(SIDES[:len(numbers)]))
        kinds = {offers[number][1][1] for number in numbers}
        self.assertEqual(len(kinds), 1)
        self.assertEqual(len(numbers), 3 if kinds <= set(draw.borne) else 2)
        self.assertEqual(len({offers[number][1][0] for number in numbers}), len(numbers))
        for one in numbers:
            for other in numbers:
                self.assertTrue(one == other or lets(offers[one][2], offers[other][1]))
            self.assertGreaterEqual(amount, min(offers[one][4], lefts[one]))
        self.assertEqual(amount, min(lefts[number] for number in numbers))

    def test_each_meeting_fits(self):
        for at, draw in enumerate(DRAWS):
            replay, parts = Replay(), collections.Counter()
            for row in house_of(draw).book():
                if row[0] == "meet":
                    with self.subTest(f"{at} {row}"):
                        self.check_meeting(draw, replay.offers, replay.lefts, row[2], row[3])
                        parts.update({number: row[3] for number in row[2]})
                replay.follow(row)
                if row[0] == "meet":
                    self.assertIn(0, [replay.lefts[number] for number in row[2]])
            for number, offer in replay.offers.items():
                self.assertLessEqual(parts[number], offer[3])


class NoneLeftTest(unittest.TestCase):
    def test_a_paper_behind_each_deed_that_is_done_at_a_time_that_is_not_quiet(self):
        quiet_ones = 0
        for at, draw in enumerate(DRAWS):
            house = House(*draw.made_of())
            for deed in draw.deeds:
                with self.subTest(f"{at} {deed}"):
                    done = not is_refused(do(house, deed))
                    could = sets_that_could_be(draw, house.waiters())
                    paper = house.rest()
                    self.assertEqual(paper is None, len(could) > 0)
                    if done and not is_quiet(draw.quiet, deed[1]):
                        self.assertTrue(rest_holds(draw.borne, house.waiters(), paper))
                quiet_ones += paper is None
        self.assertGreater(quiet_ones, 100)

    def test_what_is_in_the_way_stands_in_the_paper(self):
        for draw in PLAIN_DRAWS:
            house = house_of(draw)
            known = {number: (offer, left) for number, offer, left in house.waiters()}
            for numbers, why in (house.rest() or {}).items():
                self.assertEqual(why, why_none([known[number] for number in numbers]))


def place_key(rule, waiter):
    """Lesser where the waiter stands further ahead by the rule."""
    number, offer, left = waiter
    ways = {"heavy": -offer[5], "great": -left, "small": left, "soon": offer[6]}
    return [ways[word] for word in rule] + [number]


class FirstTest(unittest.TestCase):
    def test_each_meeting_is_the_first_that_could_be_just_then(self):
        chosen = 0
        for at, draw in enumerate(DRAWS + PLAIN_DRAWS):
            replay = Replay()
            for row in house_of(draw).book():
                if row[0] == "meet":
                    waiters = [(number, replay.offers[number], replay.lefts[number])
                               for number in replay.names.values()]
                    by_row = [one[0] for one in sorted(waiters, key=lambda one: place_key(draw.rule, one))]
                    could = [tuple(one[0] for one in some) for some in sets_that_could_be(draw, waiters)]
                    with self.subTest(f"{at} {row}"):
                        self.assertEqual(row[2], min(could, key=lambda some: sorted(map(by_row.index, some))))
                    chosen += len(could) > 1
                replay.follow(row)
        self.assertGreater(chosen, 80)


class EndsTest(unittest.TestCase):
    def test_each_coming_ends_at_most_once_and_is_in_nothing_behind_it(self):
        for at, draw in enumerate(DRAWS):
            house = house_of(draw)
            with self.subTest(at):
                for time in (house.now(), 500):
                    house.come_to(time)
                    replay = Replay()
                    for row in house.book():
                        replay.follow(row)
                    numbers = comings(house)
                    self.assertEqual([house.end(number) for number in numbers], [*map(replay.ends.get, numbers)])
                    self.assertEqual([house.left(number) for number in numbers], [*map(replay.lefts.get, numbers)])
                    self.assertEqual([house.offer(number) for number in numbers], [*map(replay.offers.get, numbers)])
                # all tills are below five hundred
                self.assertEqual((house.waiters(), None in replay.ends.values()), ([], False))

    def test_out_at_just_the_till_whenever_the_house_is_looked_at(self):
        for at, draw in enumerate(DRAWS):
            house = house_of(draw)
            tills = {number: offer[6] for number, offer, left in house.waiters()}
            for late in (0, 1, 77):
                for number, till in tills.items():
                    other = house_of(draw)
                    other.come_to(till + late)
                    with self.subTest(f"{at} {number}"):
                        self.assertIn(other.end(number)[0], ("out", "met"))
                        if other.end(number)[0] == "out":
                            self.assertEqual(other.end(number), ("out", till))
                        else:
                            self.assertLess(other.end(number)[1], till)


class OftenTest(unittest.TestCase):
    def test_to_come_to_times_between_changes_nothing(self):
        for at, draw in enumerate(DRAWS + PLAIN_DRAWS):
            dice = random.Random(at)
            told = reached(draw, House)
            seldom, often = House(*draw.made_of()), House(*draw.made_of())
            for deed, came in told:
                for time in sorted(dice.choices(range(often.now() or 0, deed[1] + 1), k=dice.choice((0, 1, 3)))):
                    often.come_to(time)
                with self.subTest(f"{at} {deed}"):
                    self.assertEqual((do(seldom, deed), do(often, deed)), (came, came))
                    self.assertEqual(told_of(seldom), told_of(often))

    def test_a_house_that_comes_to_each_single_time(self):
        for at, draw in enumerate(PLAIN_DRAWS):
            often = House(*draw.made_of())
            for deed, came in reached(draw, House):
                for time in range(often.now() or 0, deed[1]):
                    often.come_to(time)
                self.assertEqual(do(often, deed), came)
            for time in range(often.now(), 200):
                often.come_to(time)
            seldom = house_of(draw)
            seldom.come_to(199)
            self.assertEqual(told_of(seldom), told_of(often))

    def test_what_would_tells_is_what_a_coming_brings(self):
        told = collections.Counter()
        for at, draw in enumerate(DRAWS + PLAIN_DRAWS):
            house = House(*draw.made_of())
            for deed in draw.deeds:
                if deed[0] == "come":
                    before = told_of(house)
                    would = do(house, ("would",) + deed[1:])
                    self.assertEqual(repr(told_of(house)), repr(before))
                    self.assertEqual(do(house, ("would",) + deed[1:]), would)
                came = do(house, deed)
                if deed[0] == "come":
                    with self.subTest(f"{at} {deed}"):
                        rows = house.book()[len(before[-1]):]
                        self.assertEqual(repr(would), repr(came if is_refused(came) else rows))
                    told["refused" if is_refused(came) else min(len(rows), 3)] += 1
        self.assertGreater(min(told["refused"], told[1], told[2], told[3]), 80)


class UntouchedTest(unittest.TestCase):
    def test_without_one_that_met_nobody(self):
        tried = collections.Counter()
        for at, draw in enumerate(PLAIN_DRAWS):
            house, deeds = owned_deeds(draw)
            met = {number for time, numbers, amount in house.meetings() for number in numbers}
            came = [row[3] for row in house.book() if row[0] == "come"]
            for gone in came:
                word = (house.end(gone) or ("waits",))[0]
                if gone not in met and word != "changed":
                    self.check_without(draw, house, deeds, gone, f"{at} {gone}")
                    tried[word] += 1
        self.assertGreater(min(tried["out"], tried["off"], tried["waits"]), 50)

    def check_without(self, draw, house, deeds, gone, name):
        other = House(*draw.made_of())
        for deed, number in deeds:
            told = do(other, ("come_to", deed[1]) if number == gone else deed)
            self.assertFalse(is_refused(told), name)
        new = {number: number - (number > gone) for number in comings(house) if number != gone}
        with self.subTest(name):
            self.assertEqual(other.meetings(), [(time, tuple(new[number] for number in numbers), amount)
                                                for time, numbers, amount in house.meetings()])
            self.assertEqual(ends(other), [end for number, end in enumerate(ends(house)) if number != gone])


class ApartTest(unittest.TestCase):
    def test_the_deeds_of_one_kind_alone(self):
        tried = collections.Counter()
        for at, draw in enumerate(KIND_DRAWS):
            house, deeds = owned_deeds(draw)
            for kind in draw.kinds:
                numbers = [number for number in comings(house) if house.offer(number)[1][1] == kind]
                other = House(*draw.made_of())
                for deed, number in deeds:
                    told = do(other, deed if number in numbers else ("come_to", deed[1]))
                    self.assertFalse(is_refused(told))
                new = {number: place for place, number in enumerate(numbers)}
                expected = [(time, tuple(new[number] for number in met), amount)
                            for time, met, amount in house.meetings() if met[0] in new]
                with self.subTest(f"{at} {kind}"):
                    self.assertEqual(other.meetings(), expected)
                    self.assertEqual(ends(other), [ends(house)[number] for number in numbers])
                tried[kind] += len(expected)
        self.assertGreater(min(tried.values()), 30)


def mirror(word):
    """Another word for a word, one for one; what rose falls."""
    return "".join("zyxwvutsrqponmlkjihgfedcba"[ord(sign) - ord("a")] for sign in word)


def other_wish(wish):
    word = wish[0]
    if word == "not":
        return (word, other_wish(wish[1]))
    if word in ("and", "or"):
        return (word, tuple(other_wish(one) for one in wish[1]))
    if word == "is":
        return (word, mirror(wish[1])[::-1])
    return (word,) + tuple(mirror(one) if isinstance(one, str) else one for one in wish[1:])


def other_words(offer):
    """The offer with other words; marks are turned around, too, so that they go by words of their own."""
    side, (name, kind, marks, sizes), wish, *rest = offer
    marks = tuple(sorted(mirror(mark)[::-1] for mark in marks))
    sizes = tuple(sorted((mirror(size), number) for size, number in sizes))
    return (side, (mirror(name), mirror(kind), marks, sizes), other_wish(wish), *rest)


class AlikeTest(unittest.TestCase):
    def check(self, draw, made_of, change, meetings, end, name):
        """Hold the house of the draw against that of the changed deeds, both by their meetings and ends."""
        house, other = House(*draw.made_of()), House(*made_of)
        for deed in draw.deeds:
            came, told = do(house, deed), do(other, change(deed))
            self.assertEqual(told, came, f"{name} {deed}")
        with self.subTest(name):
            self.assertEqual(other.meetings(), [meetings(*one) for one in house.meetings()])
            self.assertEqual([other.end(number) for number in comings(other)],
                             [end(house.end(number)) for number in comings(house)])

    def with_offer(self, change):
        """The change of a deed that changes its offer."""
        return lambda deed: deed[:2] + (change(deed[2]),) if deed[0] in ("come", "change") else deed

    def test_givers_and_takers_exchanged(self):
        sides = {"give": "take", "take": "give", "bear": "bear"}
        change = self.with_offer(lambda offer: (sides[offer[0]],) + offer[1:])
        for at, draw in enumerate(PLAIN_DRAWS):
            self.check(draw, draw.made_of(), change,
                       lambda time, numbers, amount: (time, (numbers[1], numbers[0]) + numbers[2:], amount),
                       lambda end: end, at)

    def test_other_words(self):
        of_offer = self.with_offer(other_words)

        def change(deed):
            return deed[:2] + (mirror(deed[2]),) + deed[3:] if deed[0] in ("off", "less", "wait") else of_offer(deed)

        for at, draw in enumerate(PLAIN_DRAWS):
            self.check(draw, (draw.rule, tuple(mirror(kind) for kind in draw.borne), draw.quiet), change,
                       lambda *meeting: meeting, lambda end: end, at)

    def test_later_times(self):
        for at, draw in enumerate(PLAIN_DRAWS):
            late = (1, 7, 999, 10 ** 9 - 1000)[at % 4]
            of_offer = self.with_offer(lambda offer: offer[:6] + (offer[6] + late,))

            def change(deed):
                word, time, *told = of_offer(deed)
                told = [told[0], told[1] + late] if word == "wait" else told
                return (word, time + late, *told)

            quiet = tuple((begin + late, end + late) for begin, end in draw.quiet)
            self.check(draw, (draw.rule, draw.borne, quiet), change,
                       lambda time, numbers, amount: (time + late, numbers, amount),
                       lambda end: end and (end[0], end[1] + late), at)

    def test_greater_amounts(self):
        for at, draw in enumerate(PLAIN_DRAWS):
            times = (2, 3, 100, 10 ** 5)[at % 4]
            of_offer = self.with_offer(lambda one: one[:3] + (one[3] * times, one[4] * times) + one[5:])

            def change(deed):
                return deed[:3] + (deed[3] * times,) if deed[0] == "less" else of_offer(deed)

            self.check(draw, draw.made_of(), change,
                       lambda time, numbers, amount: (time, numbers, amount * times), lambda end: end, at)


class JudgedTest(unittest.TestCase):
    def test_each_book_is_right_and_so_is_each_of_its_beginnings(self):
        for at, draw in enumerate(DRAWS + PLAIN_DRAWS + KIND_DRAWS):
            house = house_of(draw)
            house.come_to(300)
            book = house.book()
            with self.subTest(at):
                self.assertIsNone(judged(*draw.made_of(), book))
                for many in range(0, len(book), 5):
                    self.assertIsNone(judged(*draw.made_of(), book[:many]))
                self.assertEqual(house.book(), book)

    def test_each_book_is_read_again_from_its_text(self):
        for at, draw in enumerate(DRAWS + PLAIN_DRAWS + KIND_DRAWS):
            book = house_of(draw).book()
            with self.subTest(at):
                self.assertEqual(repr(read_book(book_text(book))), repr(book))


if __name__ == "__main__":
    unittest.main()
