"""Rows: what the desk is told, read word by word."""

from coverfill.errors import NoRow, NoText
from coverfill.ratios import NOUGHT, ONE, under
from coverfill.words import is_count, read_ratio, read_shape

LETTERS = "abcdefghijklmnopqrstuvwxyz"
MOST_LETTERS = 8
MOST_INK = 255

# What is due behind the first word of each row.
DUE = {
    "shape": ("name", "text"),
    "fill": ("name", "ink", "ink", "ink", "strength"),
    "rub": ("name", "strength"),
    "mask": ("number", "name"),
    "thin": ("number", "strength"),
    "drop": ("number",),
    "lift": ("number", "number"),
    "renew": (),
    "cell": ("number", "number"),
    "share": ("name", "number", "number"),
    "area": ("name",),
    "show": (),
}


def is_name(word):
    return 1 <= len(word) <= MOST_LETTERS and all([sign in LETTERS for sign in word])


def is_ink(word):
    return is_count(word) and int(word) <= MOST_INK


def has_form(word, kind):
    """Whether the word is a name, number or ink where one is due; a text or strength is looked at when it is read."""
    if kind == "name":
        return is_name(word)
    if kind == "number":
        return is_count(word)
    if kind == "ink":
        return is_ink(word)
    return True


def read_strength(word):
    one = read_ratio(word)
    if under(one, NOUGHT) or under(ONE, one):
        raise NoText("a strength is from nought to 1")
    return one


def read_word(word, kind):
    if kind == "text":
        return read_shape(word)
    if kind == "strength":
        return read_strength(word)
    if kind == "name":
        return word
    return int(word)


def words_of(row):
    words = row.split(" ")
    if words[0] != "shape":
        return words
    # The blanks of a shape's text part no words of the row.
    words = row.split(" ", 2)
    return words + [""] if len(words) == 2 else words


def read_row(row):
    """The row's first word and what the others write, in order; or NoRow, or behind that NoText."""
    words = words_of(row)
    if words[0] not in DUE:
        raise NoRow("no row begins with this word")
    due = DUE[words[0]]
    others = words[1:]
    if len(others) != len(due):
        raise NoRow("the row has too few words or too many")
    for k in range(len(due)):
        if not has_form(others[k], due[k]):
            raise NoRow("another kind of word is due in this row")
    # Only here, since NoRow is told ahead of NoText, wherever in the row they stand.
    return [words[0]] + [read_word(others[k], due[k]) for k in range(len(due))]
