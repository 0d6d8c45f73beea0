"""Rows of deeds, drawn by fixed numbers, and a slow house to hold the house against."""

import itertools

from matepoint import errors
from matepoint.offers import is_offer, part
from tests.things import Chance, offer

SIDES = ("give", "take", "bear")
RULE_WORDS = ("heavy", "great", "small", "soon")
NAMES = "abcdefghijklmnop"
ANY = ("any",)


def is_time(thing):
    return type(thing) is int and 0 <= thing <= 10 ** 9


def is_quiet(quiet, time):
    return any(time in range(begin, end) for begin, end in quiet)


class SlowHouse:
    """A house by the words of stage 7 that goes through each single time, and tries all that wait with all."""

    def __init__(self, rule, borne, quiet):
        self.rule, self.borne, self.quiet = rule, borne, quiet
        self.time, self.rows, self.all = None, [], []

    def waiting(self):
        return [one for one in self.all if one["end"] is None]

    def called(self, name):
        return [one for one in self.waiting() if type(name) is str and one["offer"][1][0] == name]

    def key(self, one):
        ways = {"heavy": -one["offer"][5], "great": -one["left"], "small": one["left"], "soon": one["offer"][6]}
        return [ways[word] for word in self.rule] + [one["number"]]

    def meeting(self):
        by_row = sorted(self.waiting(), key=self.key)
        good = []
        for many in (2, 3):
            for chosen in itertools.combinations(range(len(by_row)), many):
                some = sorted([by_row[at] for at in chosen], key=lambda one: SIDES.index(one["offer"][0]))
                sides = tuple(one["offer"][0] for one in some)
                borne = some[0]["offer"][1][1] in self.borne
                if sides == SIDES[:many] and borne == (many == 3):
                    amount = part([(one["offer"], one["left"]) for one in some])
                    good += [(chosen, [one["number"] for one in some], amount)] if amount else []
        return min(good)[1:] if good else None

    def settle(self):
        while not is_quiet(self.quiet, self.time) and self.meeting():
            numbers, amount = self.meeting()
            self.rows.append(("meet", self.time, tuple(numbers), amount))
            for number in numbers:
                one = self.all[number]
                one["left"] -= amount
                one["end"] = None if one["left"] else ("met", self.time)

    def reach(self, time):
        if not is_time(time) or (self.time is not None and time < self.time):
            raise errors.BadTime(self.time)
        while self.time is not None and self.time < time:
            self.time += 1
            for one in self.waiting():
                if one["offer"][6] == self.time:
                    one["end"] = ("out", self.time)
                    self.rows.append(("out", self.time, one["number"]))
            self.settle()
        self.time = time

    def add(self, word, offer):
        number = len(self.all)
        self.all.append({"number": number, "offer": offer, "left": offer[3], "end": None})
        self.rows.append((word, self.time, offer, number))
        self.settle()
        return number

    def come(self, time, offer):
        if not is_offer(offer):
            raise errors.BadOffer
        self.reach(time)
        if self.called(offer[1][0]):
            raise errors.HasName
        if offer[6] <= time:
            raise errors.TooLate
        if len(self.waiting()) == 30:
            raise errors.Full
        return self.add("come", offer)

    def change(self, time, offer):
        if not is_offer(offer):
            raise errors.BadOffer
        self.reach(time)
        if not self.called(offer[1][0]):
            raise errors.NoName
        if offer[6] <= time:
            raise errors.TooLate
        self.called(offer[1][0])[0]["end"] = ("changed", time)
        return self.add("change", offer)

    def one(self, time, name):
        self.reach(time)
        if not self.called(name):
            raise errors.NoName
        return self.called(name)[0]

    def off(self, time, name):
        self.one(time, name)["end"] = ("off", time)
        self.rows.append(("off", time, name))

    def less(self, time, name, many):
        one = self.one(time, name)
        if type(many) is not int or not 1 <= many < one["left"]:
            raise errors.BadMany
        one["left"] = many
        self.rows.append(("less", time, name, many))
        self.settle()

    def wait(self, time, name, till):
        if not is_time(till):
            raise errors.BadTime(self.time)
        one = self.one(time, name)
        if till <= time:
            raise errors.TooLate
        one["offer"] = one["offer"][:6] + (till,)
        self.rows.append(("wait", time, name, till))
        self.settle()

    def come_to(self, time):
        self.reach(time)

    def told(self):
        """All that a house tells, as told_of tells it."""
        waiters = [(one["number"], one["offer"], one["left"]) for one in self.waiting()]
        row = [one["number"] for one in sorted(self.waiting(), key=self.key)]
        return (self.time, row, [(one["left"], one["offer"], one["end"]) for one in self.all],
                [row[1:] for row in self.rows if row[0] == "meet"], waiters, self.meeting() is None, self.rows)


def told_of(house):
    """All that a house tells; of the rest paper only whether there is one."""
    comings = [row[3] for row in house.book() if row[0] in ("come", "change")]
    return (house.now(), house.row(), [(house.left(at), house.offer(at), house.end(at)) for at in comings],
            house.meetings(), house.waiters(), house.rest() is not None, house.book())


class Replay:
    """Who waits and who has ended, by the rows of a book alone."""

    def __init__(self):
        self.offers, self.lefts, self.ends, self.names = {}, {}, {}, {}

    def finish(self, number, word, time):
        # a KeyError where that one doesn't wait
        assert self.names[self.offers[number][1][0]] == number
        del self.names[self.offers[number][1][0]]
        self.ends[number] = (word, time)

    def follow(self, row):
        word, time, what = row[:3]
        if word == "change":
            self.finish(self.names[what[1][0]], "changed", time)
        if word in ("come", "change"):
            assert what[1][0] not in self.names and row[3] == len(self.offers)
            self.names[what[1][0]] = row[3]
            self.offers[row[3]], self.lefts[row[3]] = what, what[3]
        if word == "less":
            self.lefts[self.names[what]] = row[3]
        if word == "wait":
            number = self.names[what]
            self.offers[number] = self.offers[number][:6] + (row[3],)
        if word == "off":
            self.finish(self.names[what], word, time)
        if word == "out":
            assert self.offers[what][6] == time
            self.finish(what, word, time)
        for number in what if word == "meet" else ():
            assert self.names[self.offers[number][1][0]] == number
            self.lefts[number] -= row[3]
            if self.lefts[number] == 0:
                self.finish(number, "met", time)


def do(house, deed):
    """Do a deed, a tuple of its word and what is told with it; tell what came of it, a refusal as its name."""
    try:
        return getattr(house, deed[0])(*deed[1:])
    except errors.BadTime as refusal:
        return ("BadTime", refusal.last)
    except errors.MateError as refusal:
        return type(refusal).__name__


def is_refused(told):
    return isinstance(told, (str, tuple))


class Draw:
    """A rule, kinds borne, quiet times and deeds, drawn by a number."""

    def __init__(self, seed, many=40, kinds=("bread", "wood"), keep_kinds=False, bad=True):
        self.chance = Chance(seed)
        self.dice = self.chance.dice
        self.kinds, self.keep_kinds = kinds, keep_kinds
        self.rule = tuple(self.dice.sample(RULE_WORDS, self.dice.randint(0, 3)))
        self.borne = tuple(self.dice.sample(kinds, self.dice.choice((0, 1, len(kinds)))))
        times = sorted(self.dice.sample(range(70), 2 * self.dice.choice((0, 0, 1, 2, 3, 8))))
        self.quiet = tuple(zip(times[::2], times[1::2]))
        self.time = self.dice.choice((0, 0, 5, 30))
        self.lately = []
        self.deeds = [self.bad_deed() if bad and self.dice.random() < 0.08 else self.deed() for at in range(many)]

    def made_of(self):
        return (self.rule, self.borne, self.quiet)

    def offer(self, name):
        dice = self.dice
        many = dice.choice((1, 2, 5, 9))
        kind = self.kinds[NAMES.index(name) % len(self.kinds)] if self.keep_kinds else dice.choice(self.kinds)
        wishes = (ANY,) * 12 + (("not", ("by", dice.choice(NAMES))), ("is", "rye"), ("most", "price", 6),
                               ("not", ("is", "a")), self.chance.wish(2))
        till = self.time + dice.choice((0, 1, 3, 5, 9, 12, 20, 25, 30, 30, 40, 40))
        side = dice.choice(SIDES if kind in self.borne else SIDES[:2] * 4 + SIDES)
        return offer(side, name, kind, dice.choice(wishes), many, dice.choice((1, 1, 1, 1, dice.randint(1, many))),
                     dice.choice((0, 3)), till, dice.choice((("rye",), ("a", "rye"), ())),
                     dice.choice(((("price", dice.randint(4, 8)),), ())))

    def name(self):
        """The name of one that came not long ago, mostly."""
        return self.dice.choice(self.lately[-4:] + [self.dice.choice(NAMES)])

    def deed(self):
        dice = self.dice
        self.time += dice.choice((0, 0, 0, 0, 0, 1, 1, 3))
        others = ("off", "change", "change", "less", "less", "less", "wait", "wait", "come_to")
        word = dice.choice(("come",) * 12 + others)
        if word == "come":
            self.lately.append(dice.choice(NAMES))
            return (word, self.time, self.offer(self.lately[-1]))
        if word == "change":
            return (word, self.time, self.offer(self.name()))
        if word == "off":
            return (word, self.time, self.name())
        if word == "less":
            return (word, self.time, self.name(), dice.choice((1, 1, 2, 3, 6)))
        if word == "wait":
            return (word, self.time, self.name(), self.time + dice.choice((0, 1, 2, 4, 9, 20)))
        return (word, self.time)

    def bad_deed(self):
        """A deed that is mostly refused, with what was written by coming to its time, or ahead of it."""
        dice = self.dice
        deed = list(self.deed())
        if dice.random() < 0.5:
            deed[1] = dice.choice((self.time - 1, self.time - 9, -1, True, None, "3", 10 ** 9 + 1))
        elif len(deed) > 2:
            deed[-1] = dice.choice((None, True, 0, "nobody", [], (), -1, list(self.offer("a"))))
        return tuple(deed)


def reached(draw, make):
    """The deeds that were not refused ahead of coming to their time, and what came of each, in a new house."""
    house = make(*draw.made_of())
    told = [(deed, do(house, deed)) for deed in draw.deeds]
    return [(deed, came) for deed, came in told if came != "BadOffer" and not isinstance(came, tuple)]
