"""Point 3: what holds of every net, plan, truth and order, as far as several modules have to do with it."""

import unittest
from fractions import Fraction

from lateshares.alike import are_alike, never_later, shows_never
from lateshares.errors import TooMany
from lateshares.hours import hour
from lateshares.making import behind, called, parted, raised
from lateshares.papers import paper, shows_shares
from lateshares.runs import lateness, stretches, turns
from lateshares.sharing import ranges, shares
from lateshares.ways import greatests_of, leasts_of
from tests.asked import Asked, runs_thrown, whole
from tests.looker import rows_put_together
from tests.made import A, ALIKE, B, C, NETS, R0, R1, R2, Dice, all_runs, lengths_made, net_made, order_made
from tests.trial import most_of, pair, real

# Runs with ties all along, works as planned, early ones, turns inside; and many others.
RUNS = [
    *[(net, whole(1, 1, 1), whole(3, 3, 3), order) for net in NETS for order in ((0, 1, 2), (2, 1, 0), (1, 2, 0))],
    *[(net, whole(4, 2, 1), whole(1, 2, 5), (1, 0, 2)) for net in NETS],
    *[(net, whole(0, 3, 3), whole(6, 0, 0), (2, 1, 0)) for net in NETS],
    *runs_thrown(61, 150, 6, 12), *runs_thrown(62, 150, 6, 12, 3),
]


def many_times(numbers, k):
    return tuple(pair(k * one) for one in real(numbers))


class ByTheHours(Asked):
    """(b)"""

    def test_nets_told_alike_share_alike(self):
        for one, other in ALIKE:
            self.assertIs(are_alike(one, other, 3), True)
            for plan, truth in [*all_runs(3, 0, 1, 4)[::23], (whole(2, 2, 2), ((9, 2), (9, 2), (9, 2)))]:
                self.assertEqual(turns(one, plan, truth), turns(other, plan, truth))
                for order in ((0, 1, 2), (2, 0, 1)):
                    self.assertEqual(stretches(one, plan, truth, order), stretches(other, plan, truth, order))
                    self.assertEqual(shares(one, plan, truth, order), shares(other, plan, truth, order))

    def test_thrown_nets_share_alike_where_they_are_told_alike(self):
        dice = Dice(63)
        found = 0
        for k in range(4000):
            one, other = net_made(dice, 2, k % 4, 2), net_made(dice, 2, k % 5, 2)
            if not are_alike(one, other, 2):
                lengths = [never_later(*nets, 2)[1] for nets in ((one, other), (other, one))
                           if never_later(*nets, 2)[0] == "later"]
                self.assertTrue(lengths)
                for some in lengths:
                    self.assertNotEqual(hour(one, some), hour(other, some))
            elif one != other:
                found += 1
                for plan, truth in all_runs(2, 0, 1, 2)[k % 5::5]:
                    for order in ((0, 1), (1, 0)):
                        self.assertEqual(stretches(one, plan, truth, order), stretches(other, plan, truth, order))
                        self.assertEqual(shares(one, plan, truth, order), shares(other, plan, truth, order))
        self.assertGreater(found, 100)

    def test_one_of_both_is_told_and_never_both(self):
        for one in NETS[::2]:
            for other in NETS[1::2]:
                word, shown = never_later(one, other, 3)
                self.assertIn(word, ("never", "later"))
                self.assertIs(shows_never(one, other, 3, (word, shown)), True)
                if word == "never":
                    self.assertEqual(len(shown), len(leasts_of(one, 3)))
                    self.assertEqual({len(row) for row in shown}, {len(greatests_of(other, 3))})
                    for plan, truth in all_runs(3, 0, 2)[::7]:
                        for lengths in (plan, truth):
                            self.assertLessEqual(Fraction(*hour(one, lengths)), Fraction(*hour(other, lengths)))


class Nobodys(Asked):
    """(c)"""

    def test_as_often_as_a_sum_has_it_at_the_most(self):
        refused = 0
        for net, plan, truth, order in RUNS:
            many = len(plan)
            told = shares(net, plan, truth, order)
            most = [most_of(net, work) for work in range(many)]
            try:
                lots = leasts_of(net, many)
                self.assertEqual(most, [max(counts[work] for lot in lots for counts, _ in lot) for work in range(many)])
            except TooMany:
                refused += 1
            for share, often, early, late in zip(real(told), most, real(plan), real(truth)):
                ends = sorted([0, often * (late - early)])
                self.assertTrue(ends[0] <= share <= ends[1])
        self.assertGreater(refused, 1)

    def test_nothing_for_works_as_planned_or_followed_nowhere(self):
        for net, plan, truth, order in RUNS:
            told = shares(net, plan, truth, order)
            followed = [max(column) for column in zip(*[counts for _, _, counts in stretches(net, plan, truth, order)])]
            for share, often, early, late in zip(told, followed, plan, truth):
                if early == late or not often:
                    self.assertEqual(share, (0, 1))


class Parts(Asked):
    """(d)"""

    def check_parted(self, net, plan, truth, order, work, portions):
        many = len(plan)
        lengths = []
        for some, portion in zip((plan, truth), portions):
            own = Fraction(*some[work])
            lengths.append((*some[:work], pair(own * (1 - portion)), *some[work + 1:], pair(own * portion)))
        told = shares(net, plan, truth, order)
        new = shares(parted(net, work, many), *lengths, (*order, many))
        self.assertEqual(pair(sum(real([new[work], new[many]]))), told[work], (net, plan, truth, order, work, portions))
        self.assertEqual(new[:work] + new[work + 1:many], told[:work] + told[work + 1:])

    def test_parted(self):
        portions = [Fraction(0), Fraction(1, 2), Fraction(1, 3), Fraction(1), Fraction(5, 7)]
        for k, (net, plan, truth, order) in enumerate(RUNS):
            self.check_parted(net, plan, truth, order, k % len(plan), (portions[k % 5], portions[k // 5 % 5]))

    def test_parted_twice(self):
        net, plan, truth = ("last", A, ("after", B, B)), whole(6, 3), whole(9, 5)
        told = shares(net, plan, truth, (0, 1))
        net = parted(parted(net, 1, 2), 2, 3)
        new = shares(net, whole(6, 1, 1, 1), whole(9, 0, 4, 1), (0, 1, 2, 3))
        self.assertEqual((new[0], pair(sum(real(new[1:])))), told)

    def check_behind(self, one, other):
        """Two runs behind one another, the orders shuffled into one another in several ways."""
        (first, plan, truth, order), (second, plan_two, truth_two, order_two) = one, other
        many = len(plan)
        more = tuple(work + many for work in order_two)
        told = (*shares(*one), *shares(*other))
        net = behind(first, many, second)
        mixed = [work for two in zip(order, more) for work in two]
        mixed += [work for work in (*order, *more) if work not in mixed]
        for whole_order in ((*order, *more), (*more, *order), tuple(mixed)):
            run = net, (*plan, *plan_two), (*truth, *truth_two), whole_order
            self.assertEqual(shares(*run), told, (one, other, whole_order))
            self.assertEqual(Fraction(*lateness(*run[:3])),
                             Fraction(*lateness(*one[:3])) + Fraction(*lateness(*other[:3])))

    def test_behind(self):
        for k, run in enumerate(RUNS[:-1]):
            self.check_behind(run, RUNS[k + 1])
            if k % 5 == 0:
                self.check_behind(run, run)
                self.check_behind(run, RUNS[-k])

    def test_all_so_many_times(self):
        for k, (net, plan, truth, order) in enumerate(RUNS):
            for times in (1, 2, 3 + k % 7):
                told = shares(raised(net, times), many_times(plan, times), many_times(truth, times), order)
                self.assertEqual(told, many_times(shares(net, plan, truth, order), times))

    def test_truth_and_plan_exchanged(self):
        for net, plan, truth, order in RUNS:
            self.assertEqual(shares(net, truth, plan, order), many_times(shares(net, plan, truth, order), -1))

    def test_ranges_of_nets_behind_one_another(self):
        for one, other in [(("last", A, B), ("first", A, B)), (("first", A, ("after", A, B)), ("last", A, R2, B))]:
            plan, truth = whole(2, 2, 1, 1), whole(3, 3, 4, 4)
            told = ranges(behind(one, 2, other), plan, truth)
            self.assertEqual(told, ranges(one, plan[:2], truth[:2]) + ranges(other, plan[2:], truth[2:]))


class Shown(Asked):
    """(e)"""

    def test_papers_of_all_runs(self):
        for run in RUNS:
            told = paper(*run)
            self.assertEqual(told[1], shares(*run))
            self.assertIs(shows_shares(*run, told), True)
            for k, one in enumerate(told[1]):
                some = (*told[1][:k], pair(Fraction(*one) + 1), *told[1][k + 1:])
                self.assertIs(shows_shares(*run, ("shares", some, told[2])), False)

    def test_papers_of_made_nets(self):
        for k, (net, plan, truth, order) in enumerate(RUNS[::9]):
            many = len(plan)
            longer = behind(parted(net, k % many, many), many + 1, ("last", A, ("first", B, R1)))
            run = longer, (*plan, *whole(1, 2, 3)), (*truth, *whole(1, 4, 2)), (many + 1, *order, many + 2, many)
            told = paper(*run)
            self.assertEqual(told[1], shares(*run))
            self.assertIs(shows_shares(*run, told), True)

    def test_what_is_let_is_the_shares(self):
        # Rows of another hand, the parts alike in all chosen now so, now so; shares of all kinds.
        dice = Dice(64)
        for net, plan, truth, order in [*runs_thrown(65, 60, 4, 5, 3)]:
            rows = rows_put_together(net, plan, truth, order, dice.one_of)
            for other in {order, order[::-1], order_made(dice, len(plan))}:
                some = shares(net, plan, truth, other)
                told = shows_shares(net, plan, truth, order, ("shares", some, rows))
                self.assertIs(told, some == shares(net, plan, truth, order))


class Called(Asked):
    def test_all_works_called_otherwise(self):
        dice = Dice(66)
        for one, other in ALIKE:
            names = order_made(dice, 3)
            self.assertIs(are_alike(called(one, names), called(other, names), 3), True)

    def test_raised_nets_are_alike_where_they_were(self):
        for one, other in ALIKE:
            self.assertIs(are_alike(raised(one, 3), raised(other, 3), 3), True)
        self.assertIs(are_alike(R2, raised(R1, 2), 0), True)
        self.assertIs(are_alike(raised(C, 9), C, 3), True)
        self.assertIs(are_alike(raised(R0, 9), R0, 3), True)

    def test_parted_nets_are_alike_where_they_were(self):
        for k, (one, other) in enumerate(ALIKE):
            self.assertIs(are_alike(parted(one, k % 3, 3), parted(other, k % 3, 3), 4), True)
        self.assertIs(are_alike(behind(A, 1, A), behind(B, 0, A), 2), True)
        self.assertEqual(lengths_made(Dice(1), 0, 1), ())


if __name__ == "__main__":
    unittest.main()
