"""The refusals: each stands straight under MateError, none under another one."""


class MateError(ValueError):
    """Any refusal."""


class NoText(MateError):
    """A text that tells nothing; at is the number of its first word or row that can't stand there."""

    def __init__(self, at):
        self.at = at


class BadRule(MateError):
    """A rule, kinds borne or quiet times that are none."""


class BadOffer(MateError):
    """An offer that is none."""


class BadTime(MateError):
    """A time that is none, or is past; last is the time at which the house is, or None."""

    def __init__(self, last):
        self.last = last


class HasName(MateError):
    """A name that a waiting one has already."""


class NoName(MateError):
    """A name that no waiting one has."""


class TooLate(MateError):
    """A till that isn't above the time."""


class Full(MateError):
    """One more than may wait."""


class BadMany(MateError):
    """An amount that isn't less than what is left, or is none."""


class NoNumber(MateError):
    """A number that no coming has."""


class BadBook(MateError):
    """A book that is no list."""


class NoLine(MateError):
    """A line that the desk doesn't know."""
