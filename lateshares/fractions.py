"""Fractions: tuples (n, d) of whole numbers, d from 1, without a common part."""

from math import gcd

from lateshares.errors import NoPart, NoText

NOUGHT = (0, 1)
MOST_FIGURES = 12


def is_whole(thing):
    """Whether anything is a whole number: an int that is no truth."""
    return isinstance(thing, int) and not isinstance(thing, bool)


def is_fraction(thing):
    """Whether anything is a fraction."""
    if not isinstance(thing, tuple) or len(thing) != 2:
        return False
    n, d = thing
    if not is_whole(n) or not is_whole(d):
        return False
    # gcd(0, d) is d, so that of 0 only (0, 1) is let.
    return d >= 1 and gcd(n, d) == 1


def part(n, d=1):
    """The fraction of n and d."""
    if d == 0:
        raise NoPart(n)
    common = gcd(n, d)
    if d < 0:
        # The sign of a fraction stands in its first number alone.
        common = -common
    return (n // common, d // common)


def plus(one, other):
    """One number and another one together."""
    return part(one[0] * other[1] + other[0] * one[1], one[1] * other[1])


def minus(one, other):
    """One number less another one."""
    return part(one[0] * other[1] - other[0] * one[1], one[1] * other[1])


def times(one, other):
    """One number as often as another one tells."""
    return part(one[0] * other[0], one[1] * other[1])


def over(one, other):
    """One number parted by another one."""
    if other[0] == 0:
        raise NoPart(one)
    return part(one[0] * other[1], one[1] * other[0])


def is_less(one, other):
    """Whether one number is less than another one."""
    return one[0] * other[1] < other[0] * one[1]


def sum_of(some):
    """All of some numbers together."""
    total = NOUGHT
    for one in some:
        total = plus(total, one)
    return total


def least_of(some):
    """The least of some numbers, one at least."""
    least = some[0]
    for one in some:
        if is_less(one, least):
            least = one
    return least


def greatest_of(some):
    """The greatest of some numbers, one at least."""
    greatest = some[0]
    for one in some:
        if is_less(greatest, one):
            greatest = one
    return greatest


def written(fraction):
    """The text of a fraction: of d 1 the number alone."""
    n, d = fraction
    if d == 1:
        return str(n)
    return f"{n}/{d}"


def is_figures(text):
    """Whether a text is nothing but figures 0 to 9, not too many."""
    return text.isascii() and text.isdigit() and len(text) <= MOST_FIGURES


def read_fraction(text):
    """The fraction that is so written; anything else is refused."""
    if not isinstance(text, str):
        raise NoText(text)
    top, stroke, bottom = text.partition("/")
    if stroke == "":
        bottom = "1"
    if not is_figures(top.removeprefix("-")) or not is_figures(bottom):
        raise NoText(text)
    fraction = (int(top), int(bottom))
    # Writing it again finds what is written otherwise: a 0 ahead, `-0`, `3/1`.
    if not is_fraction(fraction) or written(fraction) != text:
        raise NoText(text)
    return fraction
