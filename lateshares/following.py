"""Who is followed: how often a net's hour has each work, little numbers reckoned in.

What is compared here is a *mark*: a tuple of what a sum comes to, how fast it grows, and how often it has each work of
the order, the first one ahead. Marks add up as sums do, and rise as tuples just as the sums rise with little numbers
reckoned in: so no little number need be made, and a length may be 0 and its slope below 0.
"""

from math import lcm

from lateshares.fractions import NOUGHT
from lateshares.nets import LATEST, parts_of


def scale_of(numbers):
    """The least whole number, from 1, so many times which all numbers are whole."""
    scale = 1
    for _, d in numbers:
        scale = lcm(scale, d)
    return scale


def scaled(fraction, scale):
    """A fraction so many times, which is a whole number."""
    n, d = fraction
    return n * (scale // d)


def marks_of(lengths, slopes, order):
    """A list of each work's mark, and the mark of a rest of 1; by the order () without little numbers."""
    # One scale for both, that what they come to may be parted by how fast they grow.
    scale = scale_of([*lengths, *slopes])
    works = []
    for work, length in enumerate(lengths):
        counts = [int(one == work) for one in order]
        works.append((scaled(length, scale), scaled(slopes[work], scale), *counts))
    return works, (scale, 0, *[0 for _ in order])


def mark_chosen(join, marks):
    """The mark of the part that is followed, of a join but after."""
    if join[0] in LATEST:
        return max(marks)
    return min(marks)


def looked_at(net, works, rest):
    """The mark of a net, and a list of its joins but after as they begin in the text, each with its parts' marks."""
    word = net[0]
    if word == "work":
        return works[net[1]], []
    if word == "rest":
        return tuple([net[1] * one for one in rest]), []
    marks = []
    deeper = []
    for one in parts_of(net):
        mark, looks = looked_at(one, works, rest)
        marks.append(mark)
        deeper.extend(looks)
    if word == "after":
        return tuple([sum(column) for column in zip(*marks)]), deeper
    return mark_chosen(net, marks), [(net, marks), *deeper]


def followed(net, lengths, order):
    """How often each work is followed at these lengths."""
    return followed_along(net, lengths, tuple([NOUGHT for _ in lengths]), order)


def followed_along(net, lengths, slopes, order):
    """How often each work is followed as the lengths begin to grow by these slopes."""
    works, rest = marks_of(lengths, slopes, order)
    mark, _ = looked_at(net, works, rest)
    counts = mark[2:]
    return tuple([counts[order.index(work)] for work in range(len(lengths))])
