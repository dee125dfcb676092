"""What the document tells of hours, of who is followed, of runs and shares, reckoned another way than the program does.

Hours are whole numbers and Python's own fractions here, little numbers are really little ones, a work is followed as
often as the hour grows when its length does, and who is followed may change wherever any two sums cross.
"""

from fractions import Fraction
from itertools import combinations, permutations, product
from math import lcm

# So much more is each number than the next lesser kind of little numbers.
MORE = 10 ** 20


def parts_told(net):
    return [("rest", net[1]), net[2]] if net[0] in ("not_before", "given_up") else list(net[1:])


def hour_told(net, lengths, scale=1):
    """The hour, rests counted so many times."""
    if net[0] == "work":
        return lengths[net[1]]
    if net[0] == "rest":
        return net[1] * scale
    hours = [hour_told(one, lengths, scale) for one in parts_told(net)]
    return {"after": sum, "last": max, "not_before": max, "first": min, "given_up": min}[net[0]](hours)


def real(numbers):
    return [Fraction(n, d) for n, d in numbers]


def pair(number):
    return (number.numerator, number.denominator)


def counts_told(net, lengths, order, slopes=None):
    """How often each work is followed, of Python's fractions."""
    many = len(lengths)
    slopes = slopes or [Fraction(0)] * many
    scale = lcm(*[one.denominator for one in [*lengths, *slopes]])
    near = [int(length * scale) * MORE ** (many + 2) + int(slope * scale) * MORE ** (many + 1)
            + MORE ** (many - order.index(work)) for work, (length, slope) in enumerate(zip(lengths, slopes))]
    scale *= MORE ** (many + 2)
    longer = [[*near[:work], near[work] + 1, *near[work + 1:]] for work in range(many)]
    return tuple(hour_told(net, lengths, scale) - hour_told(net, near, scale) for lengths in longer)


def sums_of(net, many):
    """The set of all sums (counts, rest) that the net comes to by any choices."""
    if net[0] == "work":
        return {(tuple(int(work == net[1]) for work in range(many)), 0)}
    if net[0] == "rest":
        return {((0,) * many, net[1])}
    found = [sums_of(one, many) for one in parts_told(net)]
    if net[0] != "after":
        return set().union(*found)
    return {(tuple(sum(column) for column in zip(*[counts for counts, _ in some])), sum(rest for _, rest in some))
            for some in product(*found)}


def at_moment(plan, truth, t):
    return [early + t * (late - early) for early, late in zip(plan, truth)]


def crossings(net, plan, truth):
    """The rising list of 0, 1 and all moments between at which two sums cross."""
    lines = {(rest + sum(count * length for count, length in zip(counts, plan)),
              sum(count * (late - early) for count, early, late in zip(counts, plan, truth)))
             for counts, rest in sums_of(net, len(plan))}
    met = {(one[0] - other[0]) / Fraction(other[1] - one[1]) for one, other in combinations(lines, 2) if one[1] != other[1]}
    return sorted({Fraction(0), Fraction(1)} | {t for t in met if 0 < t < 1})


def rows_told(net, plan, truth, order):
    """The stretches, of Python's fractions; each is looked at in the middle between two crossings."""
    moments = crossings(net, plan, truth)
    rows = []
    for begin, end in zip(moments, moments[1:]):
        counts = counts_told(net, at_moment(plan, truth, (begin + end) / 2), order)
        if rows and rows[-1][2] == counts:
            rows[-1] = (rows[-1][0], end, counts)
        else:
            rows.append((begin, end, counts))
    return rows


def turns_told(net, plan, truth):
    """The moments at which the hour turns, by hours alone."""
    moments = crossings(net, plan, truth)
    hours = [hour_told(net, at_moment(plan, truth, t)) for t in moments]
    steep = [(hours[k + 1] - hours[k]) / (moments[k + 1] - moments[k]) for k in range(len(moments) - 1)]
    return [moments[k] for k in range(1, len(steep)) if steep[k] != steep[k - 1]]


def shares_told(net, plan, truth, order):
    rows = rows_told(net, plan, truth, order)
    return [sum(((end - begin) * counts[work] for begin, end, counts in rows), Fraction(0)) * (truth[work] - plan[work])
            for work in range(len(plan))]


def all_shares(net, plan, truth):
    """A list of (order, shares) for all orders, as tuples rise."""
    return [(order, shares_told(net, plan, truth, order)) for order in sorted(permutations(range(len(plan))))]


def most_of(net, work):
    """How often a sum of the net has a work at the most."""
    if net[0] in ("work", "rest"):
        return int(net == ("work", work))
    found = [most_of(one, work) for one in parts_told(net)]
    return sum(found) if net[0] == "after" else max(found)
