"""Who is followed: how often a net's hour has each work, little numbers reckoned in.

What is compared here is a *mark*: a tuple of what a sum comes to, how fast it grows, and how often it has each work of
the order, the first one ahead. Marks add up as sums do, and rise as tuples just as the sums rise with little numbers
reckoned in: so no little number need be made, and a length may be 0 and its slope below 0.
"""

from math import lcm

from lateshares.fractions import NOUGHT, is_whole
from lateshares.nets import LATEST, folded


def is_order(thing, many):
    """Whether anything is a tuple of all of so many works, each once."""
    if not isinstance(thing, tuple) or not all([is_whole(one) for one in thing]):
        return False
    return sorted(thing) == list(range(many))


def scale_of(numbers):
    """The least whole number, from 1, so many times which all numbers are whole."""
    scale = 1
    for _, d in numbers:
        scale = lcm(scale, d)
    return scale


def scaled(fraction, scale):
    """A fraction so many times, which is a whole number."""
    n, d = fraction
    return n * (scale // d)


def marks_of(lengths, slopes, order):
    """A list of each work's mark, and the mark of a rest of 1; by the order () without little numbers."""
    # One scale for both, that what they come to may be parted by how fast they grow.
    scale = scale_of([*lengths, *slopes])
    works = []
    for work, length in enumerate(lengths):
        counts = [int(one == work) for one in order]
        works.append((scaled(length, scale), scaled(slopes[work], scale), *counts))
    return works, (scale, 0, *[0 for _ in order])


def mark_chosen(join, marks):
    """The mark of the part that is followed, of a join but after."""
    if join[0] in LATEST:
        return max(marks)
    return min(marks)


def looked_at(net, works, rest, choose):
    """The mark of a net, and a list of its joins but after as they begin in the text.

    Of each join its net is told, a list of its parts' marks, and the one among them that choose(join, marks) tells.
    """
    looks = []

    def leaf(one):
        if one[0] == "work":
            return works[one[1]]
        return tuple([one[1] * n for n in rest])

    def joined(join, marks):
        if join[0] == "after":
            return tuple([sum(column) for column in zip(*marks)])
        chosen = choose(join, marks)
        looks.append((join, marks, chosen))
        return chosen

    mark = folded(net, leaf, joined)
    return mark, looks[::-1]


def followed(net, lengths, order):
    """How often each work is followed at these lengths."""
    return followed_along(net, lengths, tuple([NOUGHT for _ in lengths]), order)


def counts_in(mark, order):
    """How often a sum has each work, by its mark of such an order."""
    counts = mark[2:]
    return tuple([counts[order.index(work)] for work in range(len(order))])


def followed_along(net, lengths, slopes, order):
    """How often each work is followed as the lengths begin to grow by these slopes."""
    works, rest = marks_of(lengths, slopes, order)
    mark, _ = looked_at(net, works, rest, mark_chosen)
    return counts_in(mark, order)
