"""Hours: when a net ends."""

from lateshares.fractions import greatest_of, least_of, sum_of
from lateshares.nets import LATEST, parts_of


def hour(net, lengths):
    """The fraction at which a net ends by the lengths of its works."""
    word = net[0]
    if word == "work":
        return lengths[net[1]]
    if word == "rest":
        return (net[1], 1)
    hours = tuple([hour(one, lengths) for one in parts_of(net)])
    if word == "after":
        return sum_of(hours)
    if word in LATEST:
        return greatest_of(hours)
    return least_of(hours)
