"""Words: ratios and shapes as texts."""

from coverfill.errors import NoText
from coverfill.ratios import ratio

FIGURES = "0123456789"
MOST_FIGURES = 30
MOST_POINTS = 40
MOST_RINGS = 12


def show_ratio(one):
    top = one[0]
    bottom = one[1]
    return str(top) if bottom == 1 else f"{top}/{bottom}"


def show_point(point):
    across = show_ratio(point[0])
    up = show_ratio(point[1])
    return f"{across},{up}"


def show_ring(ring):
    return " ".join([show_point(point) for point in ring])


def show_shape(shape):
    """The text of a shape whose rings have a point at least."""
    return "; ".join([show_ring(ring) for ring in shape])


def is_count(text):
    """Whether the text writes a whole number from 0 on."""
    if len(text) == 0 or len(text) > MOST_FIGURES:
        return False
    # Not isdigit, which takes figures of other scripts too.
    if not all([sign in FIGURES for sign in text]):
        return False
    return text == "0" or text[0] != "0"


def is_whole(text):
    """Whether the text writes a whole number."""
    if text.startswith("-"):
        return text != "-0" and is_count(text[1:])
    return is_count(text)


def read_whole(text):
    if not is_whole(text):
        raise NoText("no whole number is written so")
    return int(text)


def read_ratio(text):
    """The ratio that the text writes, or NoText."""
    parts = text.split("/")
    top = read_whole(parts[0])
    if len(parts) == 1:
        return (top, 1)
    if len(parts) > 2 or not is_count(parts[1]):
        raise NoText("a ratio is a top, or a top, one / and a bottom without a sign")
    bottom = int(parts[1])
    # A bottom of 1 is not written, so one ratio has one text alone.
    if bottom < 2 or ratio(top, bottom) != (top, bottom):
        raise NoText("a ratio is written in lowest terms, its bottom from 2 on")
    return (top, bottom)


def read_point(text):
    parts = text.split(",")
    if len(parts) != 2:
        raise NoText("a point is two ratios, a comma between")
    return (read_ratio(parts[0]), read_ratio(parts[1]))


def read_ring(text):
    parts = text.split(" ")
    if len(parts) > MOST_POINTS:
        raise NoText("a ring of more than forty points is not read")
    return [read_point(part) for part in parts]


def read_shape(text):
    """The shape that the text writes, or NoText; the text without signs writes the shape of no rings."""
    if text == "":
        return []
    parts = text.split("; ")
    if len(parts) > MOST_RINGS:
        raise NoText("a shape of more than twelve rings is not read")
    return [read_ring(part) for part in parts]
