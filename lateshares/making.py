"""Nets made of nets."""

from lateshares.errors import NoWork
from lateshares.fractions import is_whole
from lateshares.nets import HOURED, folded


def rejoined(join, parts):
    """A join with these parts instead of its own."""
    if join[0] in HOURED:
        return (join[0], parts[0][1], parts[1])
    return (join[0], *parts)


def exchanged(net, told):
    """A net with told(i) instead of each work i."""
    return folded(net, lambda one: told(one[1]) if one[0] == "work" else one, rejoined)


def parted(net, work, many):
    """A net with a work parted into itself and a new one, which is called by the number many."""
    if not is_whole(work) or not 0 <= work < many:
        raise NoWork(work)
    both = ("after", ("work", work), ("work", many))
    return exchanged(net, lambda i: both if i == work else ("work", i))


def behind(one, many, other):
    """A net of many works and another one behind it, whose works are called by numbers many more."""
    return ("after", one, exchanged(other, lambda i: ("work", i + many)))


def called(net, names):
    """A net with each work i called names[i]."""
    return exchanged(net, lambda i: ("work", names[i]))


def raised(net, k):
    """A net with each rest and hour k times."""
    return folded(net, lambda one: ("rest", one[1] * k) if one[0] == "rest" else one, rejoined)
