"""The house: where offers wait, meet and end, and the book of it."""

from matepoint.cards import is_time
from matepoint.errors import BadMany, BadOffer, BadRule, BadTime, Full, HasName, NoName, NoNumber, TooLate
from matepoint.offers import is_between, is_offer, name_of
from matepoint.rows import are_borne, first_meeting, is_rule, rest_paper, row_of

MOST_QUIET = 8
MOST_WAITING = 30


def is_quiet_time(thing):
    """Tell of anything whether it is a begin and an end above it."""
    if not isinstance(thing, tuple) or len(thing) != 2:
        return False
    return is_time(thing[0]) and is_time(thing[1]) and thing[0] < thing[1]


def are_quiet(thing):
    """Tell of anything whether it is quiet times."""
    if not isinstance(thing, tuple) or len(thing) > MOST_QUIET or not all([is_quiet_time(one) for one in thing]):
        return False
    return all([thing[at - 1][1] < thing[at][0] for at in range(1, len(thing))])


def is_quiet_at(quiet, time):
    """Tell whether the time is quiet."""
    return any([begin <= time < end for begin, end in quiet])


def check_offer(thing):
    """Refuse what is no offer."""
    if not is_offer(thing):
        raise BadOffer("no offer")


def check_till(till, time):
    """Refuse a till that isn't above the time."""
    if till <= time:
        raise TooLate("the till is not above the time")


def twin(house):
    """Tell a new house in which all is as in that one."""
    other = House(house.rule, house.borne, house.quiet)
    other.time = house.time
    other.offers = list(house.offers)
    other.lefts = list(house.lefts)
    other.ends = list(house.ends)
    other.rows = list(house.rows)
    return other


class House:
    """A meeting point. Its lists of offers, lefts and ends have one of each coming, at the place of its number."""

    def __init__(self, rule, borne, quiet):
        if not is_rule(rule) or not are_borne(borne) or not are_quiet(quiet):
            raise BadRule("no rule, no kinds borne, or no quiet times")
        self.rule = rule
        self.borne = borne
        self.quiet = quiet
        self.time = None
        self.offers = []
        self.lefts = []
        self.ends = []
        self.rows = []

    def come(self, time, offer):
        """Let an offer wait from now on, and tell its number."""
        check_offer(offer)
        self.reach(time)
        if self.place(name_of(offer)) is not None:
            raise HasName("a waiting one has this name")
        check_till(offer[6], time)
        if len(self.waiters()) >= MOST_WAITING:
            raise Full("as many wait as may")
        return self.take_in("come", offer)

    def off(self, time, name):
        """Call a waiting one off."""
        self.reach(time)
        self.ends[self.known(name)] = ("off", time)
        self.write(("off", time, name))

    def change(self, time, offer):
        """Let an offer wait instead of the waiting one of its name, and tell its number."""
        check_offer(offer)
        self.reach(time)
        number = self.known(name_of(offer))
        check_till(offer[6], time)
        self.ends[number] = ("changed", time)
        return self.take_in("change", offer)

    def less(self, time, name, many):
        """Leave only so many of a waiting one."""
        self.reach(time)
        number = self.known(name)
        if not is_between(many, 1, self.lefts[number] - 1):
            raise BadMany("not less than what is left")
        self.lefts[number] = many
        self.write(("less", time, name, many))

    def wait(self, time, name, till):
        """Let a waiting one wait till another time."""
        if not is_time(till):
            raise BadTime(self.time)
        self.reach(time)
        number = self.known(name)
        check_till(till, time)
        self.offers[number] = self.offers[number][:6] + (till,)
        self.write(("wait", time, name, till))

    def come_to(self, time):
        """Let the house come to a time."""
        self.reach(time)

    def now(self):
        """Tell the time at which the house is, None at first."""
        return self.time

    def row(self):
        """Tell the numbers of the waiting ones, in the order of the rule."""
        return row_of(self.rule, self.waiters())

    def left(self, number):
        """Tell what is left of a coming, or was at its end."""
        self.check_number(number)
        return self.lefts[number]

    def offer(self, number):
        """Tell the offer of a coming, with its last till."""
        self.check_number(number)
        return self.offers[number]

    def end(self, number):
        """Tell how and when a coming ended, None while it waits."""
        self.check_number(number)
        return self.ends[number]

    def meetings(self):
        """Tell the time, the numbers and the part of each meeting."""
        return [(row[1], row[2], row[3]) for row in self.rows if row[0] == "meet"]

    def waiters(self):
        """Tell the number of each waiting one, its offer and what is left of it."""
        waiting = [number for number, end in enumerate(self.ends) if end is None]
        return [(number, self.offers[number], self.lefts[number]) for number in waiting]

    def rest(self):
        """Tell the paper that shows that no waiting ones can meet, None where some can."""
        return rest_paper(self.borne, self.waiters())

    def book(self):
        """Tell the rows of all deeds that were done, of meetings and of outs."""
        return list(self.rows)

    def would(self, time, offer):
        """Tell the rows that would be written if the offer came."""
        other = twin(self)
        other.come(time, offer)
        return other.rows[len(self.rows):]

    def check_number(self, thing):
        """Refuse what is no coming's number."""
        if not is_between(thing, 0, len(self.offers) - 1):
            raise NoNumber("no coming has this number")

    def place(self, name):
        """Tell the number of the waiting one of that name, None where there is none, whatever the name is."""
        if isinstance(name, str):
            for number, offer, left in self.waiters():
                if name_of(offer) == name:
                    return number
        return None

    def known(self, name):
        """Tell the number of the waiting one of that name, or refuse the name."""
        number = self.place(name)
        if number is None:
            raise NoName("no waiting one has this name")
        return number

    def take_in(self, word, offer):
        """Let an offer wait under a new number, by the deed of that word; tell the number."""
        number = len(self.offers)
        self.offers.append(offer)
        self.lefts.append(offer[3])
        self.ends.append(None)
        self.write((word, self.time, offer, number))
        return number

    def write(self, row):
        """Write the row of a deed that is done, and settle behind it."""
        self.rows.append(row)
        self.settle()

    def reach(self, time):
        """Refuse what is no time, and a time that is past; come to any other, moment by moment."""
        if not is_time(time) or (self.time is not None and time < self.time):
            raise BadTime(self.time)
        moment = self.next_moment(time)
        while moment is not None:
            self.time = moment
            self.let_out()
            self.settle()
            moment = self.next_moment(time)
        self.time = time

    def next_moment(self, time):
        """Tell the next moment, up to the time, at which a till or the end of a quiet time falls; None without one."""
        tills = [offer[6] for number, offer, left in self.waiters()]
        ends = [end for begin, end in self.quiet]
        ahead = [moment for moment in tills + ends if self.time is None or moment > self.time]
        return min([moment for moment in ahead if moment <= time], default=None)

    def let_out(self):
        """End those whose till is now."""
        for number, offer, left in self.waiters():
            if offer[6] == self.time:
                self.ends[number] = ("out", self.time)
                self.rows.append(("out", self.time, number))

    def settle(self):
        """Write one meeting after another, as long as some can meet and the time isn't quiet."""
        if is_quiet_at(self.quiet, self.time):
            return
        meeting = first_meeting(self.rule, self.borne, self.waiters())
        while meeting is not None:
            self.meet(meeting[0], meeting[1])
            meeting = first_meeting(self.rule, self.borne, self.waiters())

    def meet(self, numbers, many):
        """Write a meeting, in which so many of each go over."""
        self.rows.append(("meet", self.time, numbers, many))
        for number in numbers:
            self.lefts[number] -= many
            if self.lefts[number] == 0:
                self.ends[number] = ("met", self.time)


def do_deed(house, word, told):
    """Do the deed of that word, by the list of what is told with it; by any other word just come to the time."""
    if word == "come":
        house.come(told[0], told[1])
    elif word == "off":
        house.off(told[0], told[1])
    elif word == "change":
        house.change(told[0], told[1])
    elif word == "less":
        house.less(told[0], told[1], told[2])
    elif word == "wait":
        house.wait(told[0], told[1], told[2])
    else:
        house.come_to(told[0])
