"""Whether a net is never later than another one, and whether two end alike."""

from lateshares.following import scale_of, scaled
from lateshares.fractions import is_less, sum_of
from lateshares.hours import hour, is_lengths
from lateshares.mixing import column_of, weighed
from lateshares.ways import greatests_of, leasts_of

NEVER = "never"
LATER = "later"


def compared(leasts, greatests):
    """What never_later tells of nets with these lots."""
    mixtures = []
    for ones in leasts:
        row = []
        for others in greatests:
            mixture, lengths = weighed(ones, others)
            if mixture is None:
                return (LATER, lengths)
            row.append(mixture)
        mixtures.append(tuple(row))
    return (NEVER, tuple(mixtures))


def never_later(one, other, many):
    """("never", mixtures) where a net is never later than another one, else ("later", lengths)."""
    return compared(leasts_of(one, many), greatests_of(other, many))


def unlike_by(one, other, many):
    """Lengths by which two nets end unlike, or None."""
    leasts, greatests = leasts_of(one, many), greatests_of(one, many)
    # Too many ways of either net are refused ahead of any comparing.
    other_leasts, other_greatests = leasts_of(other, many), greatests_of(other, many)
    word, told = compared(leasts, other_greatests)
    if word == NEVER:
        word, told = compared(other_leasts, greatests)
    return told if word == LATER else None


def are_alike(one, other, many):
    """Whether two nets end alike for all lengths."""
    return unlike_by(one, other, many) is None


def are_weights(thing, many):
    """Whether anything is a tuple of so many fractions from 0 that add up to 1."""
    return is_lengths(thing, many) and sum_of(thing) == (1, 1)


def mixed(weights, lot, scale):
    """What such weights make of a lot's sums, so many times."""
    rows = [column_of(one) for one in lot]
    return [sum([scaled(weight, scale) * n for weight, n in zip(weights, column)]) for column in zip(*rows)]


def is_mixture(thing, ones, others):
    """Whether anything is a mixture for two lots."""
    if not isinstance(thing, tuple) or len(thing) != 2:
        return False
    weights, more = thing
    if not are_weights(weights, len(ones)) or not are_weights(more, len(others)):
        return False
    scale = scale_of([*weights, *more])
    return all([n <= m for n, m in zip(mixed(weights, ones, scale), mixed(more, others, scale))])


def are_mixtures(thing, leasts, greatests):
    """Whether anything is a tuple of tuples with a mixture for each two lots."""
    if not isinstance(thing, tuple) or len(thing) != len(leasts):
        return False
    for ones, row in zip(leasts, thing):
        if not isinstance(row, tuple) or len(row) != len(greatests):
            return False
        if not all([is_mixture(one, ones, others) for one, others in zip(row, greatests)]):
            return False
    return True


def shows_never(one, other, many, thing):
    """Whether anything shows that a net is never later than another one, or that it is."""
    leasts, greatests = leasts_of(one, many), greatests_of(other, many)
    if not isinstance(thing, tuple) or len(thing) != 2:
        return False
    word, shown = thing
    if word == LATER:
        return is_lengths(shown, many) and is_less(hour(other, shown), hour(one, shown))
    return word == NEVER and are_mixtures(shown, leasts, greatests)
