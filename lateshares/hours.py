"""Hours: when a net ends."""

from lateshares.fractions import NOUGHT, greatest_of, is_fraction, is_less, least_of, sum_of
from lateshares.nets import LATEST, folded


def is_lengths(thing, many):
    """Whether anything is a tuple of so many fractions from 0."""
    if not isinstance(thing, tuple) or len(thing) != many:
        return False
    return all([is_fraction(one) and not is_less(one, NOUGHT) for one in thing])


def hour_joined(join, hours):
    """When a join ends, by a list of the hours of its parts."""
    if join[0] == "after":
        return sum_of(tuple(hours))
    if join[0] in LATEST:
        return greatest_of(tuple(hours))
    return least_of(tuple(hours))


def hour(net, lengths):
    """The fraction at which a net ends by the lengths of its works."""
    return folded(net, lambda one: lengths[one[1]] if one[0] == "work" else (one[1], 1), hour_joined)
