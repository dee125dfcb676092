"""Mixtures: whether the least of some sums is never greater than the greatest of some others.

Lengths and a rest are found here as *weights* from 0, one for each work, the rest's last. By them u is no greater than
what each of the first sums comes to, w no less than what each of the others comes to. Where u can be greater than w,
the weights tell lengths; where it can't, what u less w hangs on tells a mixture. This is the simplex method: all begins
at nought and stays there while variables change places; the one of the least number always goes first, so that the
same places never come again.
"""

from math import gcd

from lateshares.fractions import part

# The columns of u and w; those of the weights come next.
AHEAD = 2


def column_of(one):
    """What stands in a sum, the rest last."""
    return [*one[0], one[1]]


class Table:
    """Bound variables that hang on free ones, all so many times as scale tells.

    Each row tells what its bound variable falls by as a free one grows; the last one what u less w grows by. The
    variables are numbered: u, w, the weights, then how far each first sum is above u and each other one below w.
    """

    def __init__(self, ones, others):
        self.rows = [[1, 0, *[-n for n in column_of(one)]] for one in ones]
        self.rows.extend([[0, -1, *column_of(other)] for other in others])
        wide = AHEAD + len(column_of(ones[0]))
        self.scale = 1
        self.free = list(range(wide))
        self.bound = list(range(wide, wide + len(self.rows)))
        self.rows.append([1, -1, *[0 for _ in range(AHEAD, wide)]])

    def next_column(self):
        """The place of a free variable that makes u more than w as it grows, or None."""
        found = [(number, k) for k, number in enumerate(self.free) if self.rows[-1][k] > 0]
        return min(found)[1] if found else None

    def next_row(self, k):
        """The place of a bound variable that would fall below 0 as that free one grows, or None."""
        found = [(number, place) for place, number in enumerate(self.bound) if self.rows[place][k] > 0]
        return min(found)[1] if found else None

    def change(self, place, k):
        """A bound and a free variable change places."""
        pivot = self.rows[place]
        rows = []
        for row in self.rows:
            # The scale before parts each of these without a rest.
            fresh = [(pivot[k] * n - row[k] * m) // self.scale for n, m in zip(row, pivot)]
            fresh[k] = -row[k]
            rows.append(fresh)
        rows[place] = [*pivot[:k], self.scale, *pivot[k + 1:]]
        self.rows = rows
        self.scale = pivot[k]
        self.bound[place], self.free[k] = self.free[k], self.bound[place]

    def settle(self):
        """Change places until u can't be more than w (None), or until a free variable may grow for ever (its place)."""
        k = self.next_column()
        while k is not None:
            place = self.next_row(k)
            if place is None:
                return k
            self.change(place, k)
            k = self.next_column()
        return None

    def weights(self, k):
        """The weights as they grow with the free variable in that place."""
        grown = {self.free[k]: self.scale}
        for number, row in zip(self.bound, self.rows):
            grown[number] = -row[k]
        return [grown.get(number, 0) for number in range(AHEAD, len(self.free))]

    def shadows(self):
        """How much u less w hangs on each sum, so many times; the first sums ahead."""
        hung = {number: -n for number, n in zip(self.free, self.rows[-1])}
        wide = len(self.free)
        return [hung.get(number, 0) for number in range(wide, wide + len(self.bound))]


def lengths_by(weights, others):
    """The lengths of such weights, by which the first sums are all greater than the others."""
    common = 0
    for n in weights:
        common = gcd(common, n)
    *lengths, rest = [n // common for n in weights]
    if rest == 0:
        # Works alone make the first sums greater, by 1 at least; so often they do in spite of all rests.
        lengths = [n * (1 + max([one for _, one in others])) for n in lengths]
        rest = 1
    return tuple([part(n, rest) for n in lengths])


def mixture_by(shadows, scale, many):
    """The mixture of such shadows, of which so many are the first sums'."""
    # Those of the first sums make 1 or more, those of the others 1 or less; as no sum has anything below 0, the ones
    # may be made less and the others more.
    ones = shadows[:many]
    others = shadows[many:]
    others[0] += scale - sum(others)
    return (tuple([part(n, sum(ones)) for n in ones]), tuple([part(n, scale) for n in others]))


def weighed(ones, others):
    """(mixture, None) where the least of ones is never greater than the greatest of others, else (None, lengths)."""
    table = Table(ones, others)
    k = table.settle()
    if k is None:
        return mixture_by(table.shadows(), table.scale, len(ones)), None
    return None, lengths_by(table.weights(k), others)
