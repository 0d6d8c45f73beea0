"""Offers and books as texts: how they are written, and how they are read."""

from matepoint.cards import is_number, is_word
from matepoint.errors import NoText
from matepoint.offers import is_offer
from matepoint.wishtexts import is_number_text, read_wish, wish_text

NONE_TEXT = "-"
FORMS = {
    "come": ("number", "number", "offer"),
    "off": ("number", "name"),
    "change": ("number", "number", "offer"),
    "less": ("number", "name", "many"),
    "wait": ("number", "name", "number"),
    "meet": ("number", "many", "number", "number"),
    "out": ("number", "number"),
}


def list_text(texts):
    """Tell the text of a list: commas between, or the text of none."""
    return ",".join(texts) or NONE_TEXT


def read_list(text):
    """Tell the texts in the text of a list."""
    if text == NONE_TEXT:
        return []
    return text.split(",")


def offer_text(offer):
    """Tell the text of an offer."""
    side, card, wish, many, least, weight, till = offer
    name, kind, marks, sizes = card
    size_text = list_text([f"{word}={number}" for word, number in sizes])
    return f"{side} {name} {kind} {list_text(marks)} {size_text} {many} {least} {weight} {till} | {wish_text(wish)}"


def row_text(row):
    """Tell the text of a row of a book."""
    word = row[0]
    if word in ("come", "change"):
        return f"{word} {row[1]} {row[3]} {offer_text(row[2])}"
    if word == "meet":
        numbers = " ".join([str(number) for number in row[2]])
        return f"{word} {row[1]} {row[3]} {numbers}"
    return " ".join([str(one) for one in row])


def book_text(book):
    """Tell the text of a book."""
    return "\n".join([row_text(row) for row in book])


def number_in(word):
    """Tell the number that a word writes, None where it writes none."""
    if is_number_text(word) and is_number(int(word)):
        return int(word)
    return None


def size_in(text):
    """Tell the size that a text writes, with None where it has no number."""
    name, sign, number = text.partition("=")
    return (name, number_in(number))


def wish_in(text):
    """Tell the wish that a text tells, None where it tells none."""
    try:
        return read_wish(text)
    except NoText:
        return None


def offer_in(text):
    """Tell the offer that a text tells, None where it tells none."""
    head, bar, wish = text.partition(" | ")
    words = head.split(" ")
    if len(words) != 9:
        return None
    marks = tuple(read_list(words[3]))
    sizes = tuple([size_in(size) for size in read_list(words[4])])
    many, least, weight, till = [number_in(word) for word in words[5:]]
    offer = (words[0], (words[1], words[2], marks, sizes), wish_in(wish), many, least, weight, till)
    if is_offer(offer):
        return offer
    return None


def thing_in(kind, word):
    """Tell the number, the many, the name or the offer that a word of a row tells, None where it tells none."""
    if kind == "offer":
        return offer_in(word)
    if kind == "name":
        return word if is_word(word) else None
    number = number_in(word)
    return None if kind == "many" and number == 0 else number


def words_in(text):
    """Tell the words of a row's text; an offer's text is one word."""
    if text.startswith("come ") or text.startswith("change "):
        return text.split(" ", 3)
    return text.split(" ")


def form_of(words):
    """Tell of which kinds the words behind the first one have to be, None where no row begins with the first."""
    form = FORMS.get(words[0])
    if words[0] == "meet" and len(words) == 6:
        return form + ("number",)
    return form


def row_in(text):
    """Tell the row that a text tells, None where it tells none."""
    words = words_in(text)
    form = form_of(words)
    if form is None or len(words) != len(form) + 1:
        return None
    told = [thing_in(kind, word) for kind, word in zip(form, words[1:])]
    if None in told:
        return None
    word = words[0]
    if word in ("come", "change"):
        return (word, told[0], told[2], told[1])
    if word == "meet":
        return (word, told[0], tuple(told[2:]), told[1])
    return tuple([word] + told)


def read_offer(text):
    """Tell the offer that a text tells; what tells none is refused with NoText."""
    if not isinstance(text, str):
        raise NoText(0)
    offer = offer_in(text)
    if offer is None:
        raise NoText(0)
    return offer


def read_book(text):
    """Tell the rows that a text tells; NoText tells the first row that is none."""
    if not isinstance(text, str):
        raise NoText(0)
    if text == "":
        return []
    rows = [row_in(line) for line in text.split("\n")]
    if None in rows:
        raise NoText(rows.index(None))
    return rows
