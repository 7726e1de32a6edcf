"""Texts of ratios and shapes read by patterns, apart from the program."""

import re
from math import gcd

WHOLE = "(?:0|-?[1-9][0-9]{0,29})"
RATIO = re.compile(f"({WHOLE})(?:/([1-9][0-9]{{0,29}}))?")


def ratio_by_pattern(text):
    """The ratio that a text writes, or None, by a pattern."""
    found = RATIO.fullmatch(text)
    if found is None:
        return None
    top, bottom = int(found[1]), int(found[2] or 1)
    if found[2] and (bottom == 1 or gcd(top, bottom) > 1):
        return None
    return (top, bottom)


def shape_by_pattern(text):
    """The shape that a text writes, or None, by patterns."""
    number = "[0-9/-]+"
    ring = f"{number},{number}(?: {number},{number}){{0,39}}"
    if text == "":
        return []
    if re.fullmatch(f"{ring}(?:; {ring}){{0,11}}", text) is None:
        return None
    shape = [[tuple(ratio_by_pattern(part) for part in one.split(",")) for one in part.split(" ")]
             for part in text.split("; ")]
    return None if any(None in one for ring in shape for one in ring) else shape
