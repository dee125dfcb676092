"""Shares: how much of the lateness each work bears."""

from itertools import permutations

from lateshares.fractions import greatest_of, least_of, minus, sum_of, times
from lateshares.nets import parts_of, works_in
from lateshares.runs import delays_of, lengths_at, looks_along, moments_of, stretches, stretches_by


def shares_in(rows, delays):
    """The shares of works that are late by these delays, by the rows of (from, to, counts)."""
    found = []
    for work, delay in enumerate(delays):
        often = tuple([times(minus(end, begin), (counts[work], 1)) for begin, end, counts in rows])
        found.append(times(sum_of(often), delay))
    return tuple(found)


def shares(net, plan, truth, order):
    """The tuple with each work's share of the lateness."""
    return shares_in(stretches(net, plan, truth, order), delays_of(plan, truth))


def shares_together(runs, many, order):
    """For each of so many works the sum of its shares in a list of runs (net, plan, truth)."""
    rows = [shares(net, plan, truth, order) for net, plan, truth in runs]
    return tuple([sum_of(tuple([row[work] for row in rows])) for work in range(many)])


def works_tied(moments, net, plan, truth):
    """A list of the works in parts that are followed alike: the shares hang on the order of these alone."""
    delays = delays_of(plan, truth)
    found = []
    for moment in moments[:-1]:
        for join, marks, followed in looks_along(net, lengths_at(plan, truth, moment), delays):
            if marks.count(followed) > 1:
                alike = [one for one, mark in zip(parts_of(join), marks) if mark == followed]
                found.extend([work for one in alike for work in works_in(one)])
    return found


def order_with(some, others):
    """The first order, as tuples rise, in which some works stand in this row, of these and of rising other ones."""
    found = []
    left = list(others)
    for work in some:
        while left and left[0] < work:
            found.append(left.pop(0))
        found.append(work)
    return tuple([*found, *left])


def shares_by_order(net, plan, truth):
    """A list of (order, shares), as orders rise; of all orders in which the tied works stand alike the first alone."""
    delays = delays_of(plan, truth)
    moments = moments_of(net, plan, truth)
    tied = works_tied(moments, net, plan, truth)
    works = list(range(len(plan)))
    others = [work for work in works if work not in tied]
    found = []
    # Nets behind one another may have twelve works, too many to go through all their orders; mostly few are tied.
    for some in permutations([work for work in works if work in tied]):
        order = order_with(some, others)
        found.append((order, shares_in(stretches_by(moments, net, plan, truth, order), delays)))
    return found


def ranges(net, plan, truth):
    """For each work (least, greatest) of its shares by all orders."""
    rows = [some for _, some in shares_by_order(net, plan, truth)]
    return tuple([(least_of(column), greatest_of(column)) for column in zip(*rows)])


def order_for(net, plan, truth, work, *, greatest=True):
    """The first of the orders by which a work's share is the greatest, else the least."""
    rows = shares_by_order(net, plan, truth)
    column = tuple([some[work] for _, some in rows])
    best = greatest_of(column) if greatest else least_of(column)
    return rows[column.index(best)][0]
