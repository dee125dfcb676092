"""Runs: a net, a plan and a truth, from the plan at 0 to the truth at 1."""

from lateshares.following import followed_along, looked_at, mark_chosen, marks_of
from lateshares.fractions import NOUGHT, is_less, least_of, minus, part, plus, sum_of, times
from lateshares.hours import hour

# The moment of the truth.
END = (1, 1)


def delays_of(plan, truth):
    """How much longer truth is than plan, for each work."""
    return tuple([minus(late, early) for early, late in zip(plan, truth)])


def lengths_at(plan, truth, t):
    """The lengths at a moment t from 0 to 1."""
    return tuple([plus(length, times(t, delay)) for length, delay in zip(plan, delays_of(plan, truth))])


def lateness(net, plan, truth):
    """The hour of truth less that of plan."""
    return minus(hour(net, truth), hour(net, plan))


def lateness_together(runs):
    """The sum of the lateness of a list of runs (net, plan, truth)."""
    return sum_of(tuple([lateness(net, plan, truth) for net, plan, truth in runs]))


def looks_along(net, lengths, slopes):
    """A list of the joins but after, as looked_at tells, as lengths begin to grow, without little numbers."""
    works, rest = marks_of(lengths, slopes, ())
    _, looks = looked_at(net, works, rest, mark_chosen)
    return looks


def steps_on(net, lengths, slopes):
    """A list of how long each part that gains on a followed one needs to come up with it."""
    steps = []
    for _, marks, followed in looks_along(net, lengths, slopes):
        for mark in marks:
            gap = followed[0] - mark[0]
            gain = mark[1] - followed[1]
            # Where the least part is followed both are below 0.
            if gap * gain > 0:
                steps.append(part(gap, gain))
    return steps


def moments_of(net, plan, truth):
    """A rising list of moments from 0 to 1; who is followed, by whatever order, changes at none but these."""
    delays = delays_of(plan, truth)
    moments = [NOUGHT]
    while is_less(moments[-1], END):
        steps = steps_on(net, lengths_at(plan, truth, moments[-1]), delays)
        moments.append(least_of((END, *[plus(moments[-1], step) for step in steps])))
    return moments


def rows_along(moments, plan, truth, told):
    """The tuple of (from, to, told(lengths, slopes)) between these moments, put together where it is told alike."""
    delays = delays_of(plan, truth)
    rows = []
    for begin, end in zip(moments, moments[1:]):
        now = told(lengths_at(plan, truth, begin), delays)
        if rows and rows[-1][2] == now:
            begin, _, _ = rows.pop()
        rows.append((begin, end, now))
    return tuple(rows)


def stretches_by(moments, net, plan, truth, order):
    """The stretches of a run whose moments_of are these."""
    return rows_along(moments, plan, truth, lambda lengths, slopes: followed_along(net, lengths, slopes, order))


def stretches(net, plan, truth, order):
    """The tuple of (from, to, counts) in which works are followed alike all through, as few as can be."""
    return stretches_by(moments_of(net, plan, truth), net, plan, truth, order)


def growth_of(counts, slopes):
    """How fast a sum grows that has each work so often."""
    return sum_of(tuple([times((count, 1), slope) for count, slope in zip(counts, slopes)]))


def turns(net, plan, truth):
    """The rising tuple of the moments at which the hour grows otherwise behind than ahead."""
    delays = delays_of(plan, truth)
    # Where the hour turns, who is followed changes, by whatever order.
    rows = stretches(net, plan, truth, tuple(range(len(plan))))
    found = []
    for (_, end, ahead), (_, _, behind) in zip(rows, rows[1:]):
        if growth_of(ahead, delays) != growth_of(behind, delays):
            found.append(end)
    return tuple(found)
