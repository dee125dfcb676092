"""What the document tells of papers, of lots and of mixtures, looked at another way than the program does.

A paper is looked at with Python's own fractions and really little numbers, lots are sets put together by all choices at
once, a mixture is added up column by column.
"""

from fractions import Fraction
from itertools import product

from tests.trial import at_moment, crossings, hour_told, parts_told, real

LEASTS = ("last", "not_before")
GREATESTS = ("first", "given_up")
MOST = 24
# So much less is each little number than the one ahead.
LESS = 10 ** 12


def is_fraction_told(thing):
    if type(thing) is not tuple or len(thing) != 2 or any(type(one) is not int for one in thing):
        return False
    return thing[1] >= 1 and Fraction(*thing).denominator == thing[1]


def joins_told(net):
    """The joins but after, as they begin in the text."""
    if net[0] in ("work", "rest"):
        return []
    inside = [join for one in parts_told(net) for join in joins_told(one)]
    return inside if net[0] == "after" else [net, *inside]


def put_together(net, choices, many, seen):
    """The sum of a net by choices, the next one ahead; seen gets (word, the chosen number, the sums) of each join."""
    if net[0] == "work":
        return [int(work == net[1]) for work in range(many)], 0
    if net[0] == "rest":
        return [0] * many, net[1]
    chosen = None if net[0] == "after" else next(choices)
    sums = [put_together(one, choices, many, seen) for one in parts_told(net)]
    if chosen is None:
        return [sum(column) for column in zip(*[counts for counts, _ in sums])], sum(rest for _, rest in sums)
    seen.append((net[0], chosen, sums))
    return sums[chosen]


def worth(one, lengths):
    counts, rest = one
    return rest + sum(count * length for count, length in zip(counts, lengths))


def row_let(net, ends, order, choices):
    """Whether these choices hold at the two ends of a row."""
    many = len(order)
    little = [Fraction(1, LESS ** (1 + order.index(work))) for work in range(many)]
    seen = []
    put_together(net, iter(choices), many, seen)
    for word, chosen, sums in seen:
        sign = 1 if word in LEASTS else -1
        for other in sums:
            ahead = [sign * (worth(sums[chosen], lengths) - worth(other, lengths)) for lengths in ends]
            if min(ahead) < 0:
                return False
            if ahead == [0, 0] and sign * (worth((sums[chosen][0], 0), little) - worth((other[0], 0), little)) < 0:
                return False
    return True


def choices_let(thing, net):
    joins = joins_told(net)
    if type(thing) is not tuple or len(thing) != len(joins) or any(type(one) is not int for one in thing):
        return False
    return all(0 <= one < len(parts_told(join)) for one, join in zip(thing, joins))


def rows_let(thing):
    """Whether anything is rows from 0 to 1, whatever their choices are."""
    if type(thing) is not tuple or not thing or any(type(row) is not tuple or len(row) != 3 for row in thing):
        return False
    if not all(is_fraction_told(moment) for row in thing for moment in row[:2]):
        return False
    ends = [[Fraction(*moment) for moment in row[:2]] for row in thing]
    joints = all(one[1] == other[0] for one, other in zip(ends, ends[1:]))
    return joints and all(begin < end for begin, end in ends) and ends[0][0] == 0 and ends[-1][1] == 1


def paper_let(net, plan, truth, order, thing):
    """Whether anything is a paper of the shares."""
    if type(thing) is not tuple or len(thing) != 3 or type(thing[0]) is not str or thing[0] != "shares":
        return False
    _, shares, rows = thing
    if type(shares) is not tuple or not all(is_fraction_told(one) for one in shares) or not rows_let(rows):
        return False
    for begin, end, choices in rows:
        ends = [at_moment(real(plan), real(truth), Fraction(*moment)) for moment in (begin, end)]
        if not choices_let(choices, net) or not row_let(net, ends, order, choices):
            return False
    return shares == shares_put_together(net, plan, truth, rows)


def shares_put_together(net, plan, truth, rows):
    """The shares that rows come to by their choices, whether these hold or not."""
    totals = [Fraction(0)] * len(plan)
    for begin, end, choices in rows:
        counts, _ = put_together(net, iter(choices), len(plan), [])
        for work, count in enumerate(counts):
            late = Fraction(*truth[work]) - Fraction(*plan[work])
            totals[work] += (Fraction(*end) - Fraction(*begin)) * count * late
    return tuple(one.as_integer_ratio() for one in totals)


def choices_told(net, lengths, take):
    """The choices at such lengths; where parts are alike in all, take tells one number of several."""
    choices = []
    for join in joins_told(net):
        hours = [hour_told(one, lengths) for one in parts_told(join)]
        best = max(hours) if join[0] in LEASTS else min(hours)
        choices.append(take([k for k, one in enumerate(hours) if one == best]))
    return tuple(choices)


def rows_put_together(net, plan, truth, order, take, more=()):
    """Rows of choices between all moments at which any two sums cross, and more moments."""
    plan, truth = real(plan), real(truth)
    moments = sorted({*crossings(net, plan, truth), *more})
    little = [Fraction(1, LESS ** (1 + order.index(work))) for work in range(len(plan))]
    rows = []
    for begin, end in zip(moments, moments[1:]):
        near = [length + less for length, less in zip(at_moment(plan, truth, (begin + end) / 2), little)]
        rows.append((begin.as_integer_ratio(), end.as_integer_ratio(), choices_told(net, near, take)))
    return tuple(rows)


def summed(sums):
    counts = zip(*[one for one, _ in sums])
    return tuple(sum(column) for column in counts), sum(rest for _, rest in sums)


def lots_told(net, many, beside):
    """The set of all lots, or None where there are too many, of the net or of a net in it."""
    if net[0] == "work":
        return {frozenset([(tuple(int(work == net[1]) for work in range(many)), 0)])}
    if net[0] == "rest":
        return {frozenset([((0,) * many, net[1])])}
    parts = [lots_told(one, many, beside) for one in parts_told(net)]
    if None in parts:
        return None
    if net[0] in beside:
        lots = set().union(*parts)
    elif net[0] == "after":
        lots = {frozenset(summed(sums) for sums in product(*some)) for some in product(*parts)}
    else:
        lots = {frozenset().union(*some) for some in product(*parts)}
    return None if len(lots) > MOST or max(len(lot) for lot in lots) > MOST else lots


def rising(lots):
    return tuple(sorted(tuple(sorted(lot)) for lot in lots))


def weights_let(thing, many):
    if type(thing) is not tuple or len(thing) != many or not all(is_fraction_told(one) for one in thing):
        return False
    return min(real(thing)) >= 0 and sum(real(thing)) == 1


def mixture_let(thing, ones, others):
    if type(thing) is not tuple or len(thing) != 2:
        return False
    if not weights_let(thing[0], len(ones)) or not weights_let(thing[1], len(others)):
        return False
    sides = []
    for weights, lot in zip(thing, (ones, others)):
        sides.append([sum(weight * n for weight, n in zip(real(weights), column))
                      for column in zip(*[(*counts, rest) for counts, rest in lot])])
    return all(one <= other for one, other in zip(*sides))


def never_let(one, other, many, thing):
    """Whether anything shows that one is never later than other, or that it is; for nets without too many ways."""
    if type(thing) is not tuple or len(thing) != 2 or type(thing[0]) is not str:
        return False
    word, shown = thing
    if word == "later":
        if type(shown) is not tuple or len(shown) != many or not all(is_fraction_told(n) for n in shown):
            return False
        return all(n >= 0 for n in real(shown)) and hour_told(one, real(shown)) > hour_told(other, real(shown))
    if word != "never":
        return False
    leasts, greatests = rising(lots_told(one, many, LEASTS)), rising(lots_told(other, many, GREATESTS))
    if type(shown) is not tuple or len(shown) != len(leasts):
        return False
    if any(type(row) is not tuple or len(row) != len(greatests) for row in shown):
        return False
    return all(mixture_let(mixture, ones, others)
               for ones, row in zip(leasts, shown) for others, mixture in zip(greatests, row))
