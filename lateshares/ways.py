"""Ways: a net as the greatest of some leasts of sums, and as the least of some greatests.

A sum is (counts, rest): how often it has each work, and a whole number. A lot is a rising tuple of sums.
"""

from lateshares.errors import TooMany
from lateshares.nets import EARLIEST, LATEST, folded

MOST_WAYS = 24


def lot_of(sums):
    """The lot of some sums, refused where there are too many of them."""
    lot = tuple(sorted(set(sums)))
    if len(lot) > MOST_WAYS:
        raise TooMany()
    return lot


def lots_alone(one, many):
    """The lots of a work or a rest: one, of its own sum."""
    if one[0] == "work":
        return [lot_of([(tuple([int(work == one[1]) for work in range(many)]), 0)])]
    return [lot_of([(tuple([0 for _ in range(many)]), one[1])])]


def together(lot, other):
    """The sums of two lots together."""
    return lot_of([*lot, *other])


def both(one, other):
    """The sum of two sums."""
    return (tuple([sum(pair) for pair in zip(one[0], other[0])]), one[1] + other[1])


def added(lot, other):
    """The sums of one sum of each of two lots."""
    return lot_of([both(one, another) for one in lot for another in other])


def by_choices(parts, join_lots):
    """The lots that come of each choice of one lot of each part, two joined by join_lots."""
    # A lot never gets fewer sums by what is joined to it: one that is refused on the way would be at the end. Lots may
    # get fewer, as they get alike: how many there are is asked at the end alone.
    lots = parts[0]
    for more in parts[1:]:
        lots = sorted(set([join_lots(one, other) for one in lots for other in more]))
    return lots


def lots_joined(join, parts, beside):
    """The rising list of the lots of a join, by those of its parts."""
    if join[0] in beside:
        lots = sorted(set([lot for some in parts for lot in some]))
    elif join[0] == "after":
        lots = by_choices(parts, added)
    else:
        lots = by_choices(parts, together)
    if len(lots) > MOST_WAYS:
        raise TooMany()
    return lots


def lots_of(net, many, beside):
    """The rising tuple of the lots of a net, those of the joins beside standing side by side."""
    lots = folded(
        net,
        lambda one: lots_alone(one, many),
        lambda join, parts: lots_joined(join, parts, beside),
    )
    return tuple(lots)


def leasts_of(net, many):
    """The rising tuple of the lots of whose leasts the net is the greatest."""
    return lots_of(net, many, LATEST)


def greatests_of(net, many):
    """The rising tuple of the lots of whose greatests the net is the least."""
    return lots_of(net, many, EARLIEST)
