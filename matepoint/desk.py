"""The desk: a house that is told lines, and answers each with a text."""

from matepoint.cards import LETTERS
from matepoint.errors import NoLine
from matepoint.house import House, do_deed
from matepoint.judge import judged
from matepoint.texts import book_text, number_in, read_book, read_list, read_offer

# of which kinds the words behind the first one are
LINES = {
    "house": ("letters", "letters", "quiet"),
    "come": ("number", "offer"),
    "off": ("number", "name"),
    "change": ("number", "offer"),
    "less": ("number", "name", "number"),
    "wait": ("number", "name", "number"),
    "to": ("number",),
    "would": ("number", "offer"),
    "row": (),
    "now": (),
    "book": (),
    "left": ("number",),
    "end": ("number",),
    "rest": (),
    "judge": ("feed", "book"),
}
DEEDS = ("come", "off", "change", "less", "wait", "to")


def split_line(line):
    """Tell the words of a line; an offer's text is one word, and behind judge the line feed and the book's text."""
    if line.startswith("judge\n"):
        return list(line.partition("\n"))
    if "\n" in line:
        raise NoLine("a line feed that no line has")
    words = line.split(" ")
    if words[0] in ("come", "change", "would"):
        return line.split(" ", 2)
    return words


def is_letters(text):
    """Tell whether a text is one small letter or more."""
    return len(text) > 0 and all([sign in LETTERS for sign in text])


def letters_in(text):
    """Tell the tuple of words of small letters that a text lists, None where it lists others."""
    words = read_list(text)
    if all([is_letters(word) for word in words]):
        return tuple(words)
    return None


def quiet_in(text):
    """Tell the tuple of pairs of numbers that a text lists, None where it lists others."""
    pairs = [tuple([number_in(word) for word in one.split("-")]) for one in read_list(text)]
    if all([len(pair) == 2 and None not in pair for pair in pairs]):
        return tuple(pairs)
    return None


def word_told(kind, word):
    """Tell what a word of a line tells, None where it can't stand there."""
    if kind == "number":
        return number_in(word)
    if kind == "letters":
        return letters_in(word)
    if kind == "quiet":
        return quiet_in(word)
    if (kind == "offer" and word == "") or (kind == "feed" and word != "\n"):
        return None
    return word


def read_line(line):
    """Tell the first word of a line, and what the others tell, offers and books as texts; or refuse the line."""
    if not isinstance(line, str):
        raise NoLine("no text")
    words = split_line(line)
    if words[0] not in LINES:
        raise NoLine("no line has this word ahead")
    kinds = LINES[words[0]]
    if len(words) != len(kinds) + 1:
        raise NoLine("too few words, or too many")
    told = [word_told(kind, word) for kind, word in zip(kinds, words[1:])]
    if None in told:
        raise NoLine("a word that can't stand there")
    return words[0], told


def deed_answer(house, word, told):
    """Do the deed of a line, and tell the rows that were written by it."""
    before = len(house.book())
    if word in ("come", "change"):
        told = [told[0], read_offer(told[1])]
    do_deed(house, word, told)
    return book_text(house.book()[before:]) or "none"


def row_answer(house):
    """Tell the row."""
    return " ".join([str(number) for number in house.row()]) or "none"


def now_answer(house):
    """Tell the time."""
    time = house.now()
    if time is None:
        return "none"
    return str(time)


def end_answer(house, number):
    """Tell the end of a coming."""
    end = house.end(number)
    if end is None:
        return "waits"
    return f"{end[0]} {end[1]}"


def rest_answer(house):
    """Tell whether some could meet."""
    if house.rest() is None:
        return "some"
    return "none"


def judge_answer(house, text):
    """Tell what the judge tells of a book's text."""
    at = judged(house.rule, house.borne, house.quiet, read_book(text))
    if at is None:
        return "right"
    return str(at)


def answer(house, word, told):
    """Tell what a line asks for."""
    if word == "would":
        return book_text(house.would(told[0], read_offer(told[1])))
    if word == "row":
        return row_answer(house)
    if word == "now":
        return now_answer(house)
    if word == "book":
        return book_text(house.book())
    if word == "left":
        return str(house.left(told[0]))
    if word == "end":
        return end_answer(house, told[0])
    if word == "rest":
        return rest_answer(house)
    return judge_answer(house, told[1])


class Desk:
    """Keeps a house, None at first."""

    def __init__(self):
        self.house = None

    def say(self, line):
        """Do what a line tells, and tell the answer."""
        word, told = read_line(line)
        if word == "house":
            self.house = House(told[0], told[1], told[2])
            return "ok"
        if self.house is None:
            raise NoLine("no house yet")
        if word in DEEDS:
            return deed_answer(self.house, word, told)
        return answer(self.house, word, told)
