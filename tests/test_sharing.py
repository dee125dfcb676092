"""Point 10: shares, ranges and orders."""

import inspect
import unittest
from fractions import Fraction
from itertools import permutations

from lateshares import sharing
from lateshares.fractions import is_fraction
from lateshares.runs import lateness, stretches
from lateshares.sharing import order_for, ranges, shares
from tests.asked import runs_thrown, whole
from tests.made import A, ALIKE, B, C, NETS, R1, R2, all_runs, plain
from tests.trial import all_shares, most_of, pair, real, shares_told

ORDERS = list(permutations(range(3)))
BIG = 10 ** 12 - 1
D = ("work", 3)


class Asked(unittest.TestCase):
    def ask(self, question, *handed, **named):
        """What is told, twice the same, of plain things, nothing handed in being changed."""
        before = repr((handed, named))
        told = question(*handed, **named)
        plain(self, told)
        self.assertIs(type(told), tuple)
        self.assertEqual(question(*handed, **named), told)
        self.assertEqual(repr((handed, named)), before)
        return told

    def check_shares(self, net, plan, truth, order, wanted):
        told = self.ask(shares, net, plan, truth, order)
        self.assertEqual(told, wanted, (net, plan, truth, order))
        self.assertTrue(all(is_fraction(one) for one in told))

    def check_ranges(self, net, plan, truth, wanted):
        self.assertEqual(self.ask(ranges, net, plan, truth), wanted, (net, plan, truth))

    def check_orders(self, net, plan, truth):
        """Ranges and orders, by all orders put down one by one."""
        rows = all_shares(net, real(plan), real(truth))
        columns = [[some[work] for _, some in rows] for work in range(len(plan))]
        self.check_ranges(net, plan, truth, tuple((pair(min(column)), pair(max(column))) for column in columns))
        for work, column in enumerate(columns):
            most, least = rows[column.index(max(column))][0], rows[column.index(min(column))][0]
            self.assertEqual(self.ask(order_for, net, plan, truth, work), most)
            self.assertEqual(self.ask(order_for, net, plan, truth, work, greatest=True), most)
            self.assertEqual(self.ask(order_for, net, plan, truth, work, greatest=False), least)


class Interface(unittest.TestCase):
    def test_names_and_arguments(self):
        wanted = {
            "shares": "(net, plan, truth, order)", "ranges": "(net, plan, truth)",
            "order_for": "(net, plan, truth, work, *, greatest=True)",
        }
        for name, arguments in wanted.items():
            function = getattr(sharing, name)
            self.assertEqual(function.__module__, "lateshares.sharing")
            self.assertEqual(str(inspect.signature(function)), arguments, name)

    def test_by_names(self):
        net, plan, truth = ("last", A, B), whole(4, 4), whole(6, 6)
        self.assertEqual(shares(order=(1, 0), truth=truth, plan=plan, net=net), ((0, 1), (2, 1)))
        self.assertEqual(ranges(truth=truth, plan=plan, net=net), (((0, 1), (2, 1)), ((0, 1), (2, 1))))
        self.assertEqual(order_for(work=1, truth=truth, plan=plan, net=net), (1, 0))
        self.assertEqual(order_for(greatest=False, work=1, truth=truth, plan=plan, net=net), (0, 1))

    def test_greatest_by_its_name_alone(self):
        with self.assertRaises(TypeError):
            order_for(A, whole(1), whole(2), 0, False)


class Shares(Asked):
    def test_one_after_another(self):
        for order in ORDERS:
            net = ("after", A, B, R2, A)
            self.check_shares(net, whole(1, 2, 3), whole(4, 1, 9), order, ((6, 1), (-1, 1), (0, 1)))
            self.check_shares(A, ((1, 2), (1, 1), (1, 1)), ((1, 3), (1, 1), (9, 1)), order, ((-1, 6), (0, 1), (0, 1)))
            self.check_shares(R2, whole(1, 2, 3), whole(4, 1, 9), order, ((0, 1),) * 3)

    def test_two_that_cross(self):
        for order in ORDERS:
            net = ("last", ("after", A, B), ("not_before", 9, C))
            self.check_shares(net, whole(1, 2, 3), whole(6, 8, 12), order, ((25, 11), (30, 11), (0, 1)))
            net = ("last", A, B)
            self.check_shares(net, whole(4, 0, 0), whole(6, 8, 7), order, ((4, 3), (8, 3), (0, 1)))
            self.check_shares(net, whole(6, 8, 7), whole(4, 0, 0), order, ((-4, 3), (-8, 3), (0, 1)))
            net = ("first", A, B)
            self.check_shares(net, whole(4, 0, 0), whole(6, 8, 7), order, ((2, 3), (16, 3), (0, 1)))

    def test_works_late_and_early(self):
        # A is late by 4 and followed ahead of the half, B is early by 4 and followed behind it.
        net = ("first", A, B)
        for order in ORDERS:
            self.check_shares(net, whole(1, 5, 0), whole(5, 1, 0), order, ((2, 1), (-2, 1), (0, 1)))
            self.check_shares(("last", A, B), whole(1, 5, 0), whole(5, 1, 0), order, ((2, 1), (-2, 1), (0, 1)))

    def test_late_alike(self):
        for order in ORDERS:
            plan, truth = whole(2, 2, 2), whole(5, 5, 5)
            for net in permutations((A, B, C)):
                wanted = [tuple((3 * int(work == order[at]), 1) for work in range(3)) for at in (0, 2)]
                self.check_shares(("last", *net), plan, truth, order, wanted[0])
                self.check_shares(("first", *net), plan, truth, order, wanted[1])

    def test_the_order_matters_where_works_are_late_alike_alone(self):
        # From 0 to the half A and B are alike, then they are not.
        net = ("last", A, ("first", B, ("after", C, ("rest", 3))))
        plan, truth = whole(1, 1, 0), whole(5, 5, 0)
        for order in ORDERS:
            wanted = whole(4, 0, 0) if order.index(0) < order.index(1) else whole(2, 2, 0)
            self.check_shares(net, plan, truth, order, wanted)
        # Alike at single moments alone: no share hangs on the order.
        net = ("last", A, B, C)
        for order in ORDERS:
            self.check_shares(net, whole(2, 2, 2), whole(3, 5, 4), order, ((0, 1), (3, 1), (0, 1)))
            self.check_shares(net, whole(6, 4, 0), whole(6, 8, 12), order, ((0, 1), (0, 1), (6, 1)))

    def test_as_planned(self):
        for net in NETS:
            for order in ORDERS:
                self.check_shares(net, whole(1, 2, 2), whole(1, 2, 2), order, ((0, 1),) * 3)

    def test_counts_that_change_many_times(self):
        net = ("after", ("not_before", 1, A), ("given_up", 3, A), ("last", A, R2))
        self.check_shares(net, whole(0), whole(4), (0,), ((8, 1),))
        self.check_shares(net, whole(4), whole(0), (0,), ((-8, 1),))
        net = ("last", A, B, C)
        self.check_shares(net, whole(6, 5, 0), whole(6, 9, 12), (0, 1, 2), ((0, 1), (3, 2), (9, 2)))

    def test_big_numbers(self):
        self.check_shares(("last", A, B), whole(BIG, 0), whole(BIG - 1, BIG), (0, 1),
                          ((-BIG, BIG + 1), (BIG, BIG + 1)))

    def test_all_of_few_runs(self):
        for k, net in enumerate(NETS):
            for plan, truth in all_runs(3, 0, 1, 3)[k % 13::13]:
                for order in ((0, 1, 2), (2, 1, 0)):
                    wanted = shares_told(net, real(plan), real(truth), order)
                    self.check_shares(net, plan, truth, order, tuple(pair(one) for one in wanted))

    def test_thrown(self):
        for net, plan, truth, order in runs_thrown(1, 300, 4, 6):
            wanted = shares_told(net, real(plan), real(truth), order)
            self.check_shares(net, plan, truth, order, tuple(pair(one) for one in wanted))


class Ranges(Asked):
    def test_no_ties(self):
        net = ("last", ("after", A, B), ("not_before", 9, C))
        self.check_ranges(net, whole(1, 2, 3), whole(6, 8, 12),
                          (((25, 11), (25, 11)), ((30, 11), (30, 11)), ((0, 1), (0, 1))))
        for work in range(3):
            self.assertEqual(order_for(net, whole(1, 2, 3), whole(6, 8, 12), work), (0, 1, 2))
            self.assertEqual(order_for(net, whole(1, 2, 3), whole(6, 8, 12), work, greatest=False), (0, 1, 2))

    def test_late_alike(self):
        plan, truth = whole(2, 2, 2), whole(5, 5, 5)
        self.check_ranges(("last", A, B, C), plan, truth, (((0, 1), (3, 1)),) * 3)
        wanted = {0: ((0, 1, 2), (1, 0, 2)), 1: ((1, 0, 2), (0, 1, 2)), 2: ((2, 0, 1), (0, 1, 2))}
        for work, (most, least) in wanted.items():
            self.assertEqual(self.ask(order_for, ("last", A, B, C), plan, truth, work), most)
            self.assertEqual(self.ask(order_for, ("last", A, B, C), plan, truth, work, greatest=True), most)
            self.assertEqual(self.ask(order_for, ("last", A, B, C), plan, truth, work, greatest=False), least)
        wanted = {0: ((1, 2, 0), (0, 1, 2)), 1: ((0, 2, 1), (0, 1, 2)), 2: ((0, 1, 2), (0, 2, 1))}
        for work, (most, least) in wanted.items():
            self.assertEqual(self.ask(order_for, ("first", A, B, C), plan, truth, work), most)
            self.assertEqual(self.ask(order_for, ("first", A, B, C), plan, truth, work, greatest=False), least)

    def test_early_alike(self):
        plan, truth = whole(5, 5), whole(2, 2)
        self.check_ranges(("last", A, B), plan, truth, (((-3, 1), (0, 1)),) * 2)
        self.assertEqual(order_for(("last", A, B), plan, truth, 0), (1, 0))
        self.assertEqual(order_for(("last", A, B), plan, truth, 0, greatest=False), (0, 1))

    def test_two_of_three_alike(self):
        net = ("last", A, ("after", B, C))
        plan, truth = whole(3, 1, 2), whole(7, 3, 4)
        self.check_ranges(net, plan, truth, (((0, 1), (4, 1)), ((0, 1), (2, 1)), ((0, 1), (2, 1))))
        self.assertEqual(order_for(net, plan, truth, 0), (0, 1, 2))
        self.assertEqual(order_for(net, plan, truth, 1), (1, 0, 2))
        self.assertEqual(order_for(net, plan, truth, 2), (1, 0, 2))
        self.assertEqual(order_for(net, plan, truth, 2, greatest=False), (0, 1, 2))

    def test_a_third_work_parts_two_that_are_alike(self):
        # Whether B or C is followed hangs on both, whether D is, on all.
        net = ("last", ("first", A, B), ("first", C, D))
        for plan, truth in ((whole(1, 1, 1, 1), whole(4, 4, 4, 4)), (whole(1, 1, 1, 0), whole(4, 4, 4, 6))):
            self.check_orders(net, plan, truth)

    def test_one_work(self):
        self.check_ranges(A, whole(1), whole(4), (((3, 1), (3, 1)),))
        self.assertEqual(order_for(A, whole(1), whole(4), 0), (0,))
        self.assertEqual(order_for(A, whole(1), whole(4), 0, greatest=False), (0,))

    def test_ties_at_one_moment_and_another(self):
        # A and B are alike ahead of the half, B and C behind it.
        net = ("last", ("first", A, ("rest", 3)), ("first", B, ("after", C, R2)), ("last", C, R1))
        self.check_orders(net, whole(1, 1, 1), whole(5, 5, 5))
        self.check_orders(net, whole(1, 1, 0), whole(5, 5, 6))
        self.check_orders(net, whole(3, 1, 1), whole(3, 5, 5))

    def test_all_of_few_runs(self):
        for k, net in enumerate(NETS):
            for plan, truth in all_runs(3, 0, 2)[k % 9::9]:
                self.check_orders(net, plan, truth)
            self.check_orders(net, whole(1, 1, 1), whole(3, 3, 3))
            self.check_orders(net, whole(3, 3, 3), whole(1, 1, 1))

    def test_thrown(self):
        for net, plan, truth, _ in runs_thrown(2, 60, 4, 6, 3):
            self.check_orders(net, plan, truth)
        for net, plan, truth, _ in runs_thrown(3, 20, 4, 6):
            self.check_orders(net, plan, truth)

    def test_six_works(self):
        net = ("last", *[("after", ("work", k), ("work", k + 1), ("work", k + 2)) for k in range(4)])
        plan, truth = whole(1, 1, 1, 1, 1, 1), whole(3, 3, 3, 3, 3, 3)
        self.check_ranges(net, plan, truth, (((0, 1), (2, 1)),) * 6)
        self.assertEqual(order_for(net, plan, truth, 0), (0, 1, 2, 3, 4, 5))
        self.assertEqual(order_for(net, plan, truth, 3), (1, 2, 3, 0, 4, 5))
        self.assertEqual(order_for(net, plan, truth, 5), (3, 0, 4, 1, 5, 2))
        self.assertEqual(order_for(net, plan, truth, 0, greatest=False), (1, 2, 3, 0, 4, 5))
        self.assertEqual(order_for(net, plan, truth, 5, greatest=False), (0, 1, 2, 3, 4, 5))


class Whole(Asked):
    """Point 3, as far as it tells of hours, stretches and shares of one run."""

    def test_shares_add_up_to_the_lateness(self):
        for net, plan, truth, order in [*runs_thrown(4, 150, 6, 12), *runs_thrown(5, 100, 6, 12, 3)]:
            told = self.ask(shares, net, plan, truth, order)
            self.assertEqual(pair(sum(real(told), Fraction(0))), lateness(net, plan, truth))

    def test_nets_that_end_alike(self):
        for one, other in ALIKE:
            runs = [*all_runs(3, 0, 1, 4)[::9], (((1, 2), (1, 2), (7, 3)), ((5, 2), (5, 2), (1, 3)))]
            for plan, truth in runs:
                for order in ((0, 1, 2), (2, 1, 0), (1, 2, 0)):
                    self.assertEqual(stretches(one, plan, truth, order), stretches(other, plan, truth, order))
                    self.check_shares(one, plan, truth, order, shares(other, plan, truth, order))
            plan, truth = whole(1, 1, 1), whole(3, 3, 3)
            self.check_ranges(one, plan, truth, ranges(other, plan, truth))

    def test_works_as_planned_and_works_followed_nowhere(self):
        for net, plan, truth, order in [*runs_thrown(6, 150, 6, 12), *runs_thrown(7, 100, 6, 12, 3)]:
            told = shares(net, plan, truth, order)
            rows = stretches(net, plan, truth, order)
            for work, share in enumerate(told):
                if plan[work] == truth[work] or not any(counts[work] for _, _, counts in rows):
                    self.assertEqual(share, (0, 1))

    def test_late_and_early_works(self):
        for net, plan, truth, order in [*runs_thrown(8, 150, 6, 12), *runs_thrown(9, 100, 6, 12, 3)]:
            for work, share in enumerate(real(shares(net, plan, truth, order))):
                most = most_of(net, work) * (Fraction(*truth[work]) - Fraction(*plan[work]))
                self.assertLessEqual(min(0, most), share)
                self.assertLessEqual(share, max(0, most))

    def test_ranges_are_come_to_and_none_is_beyond(self):
        for net, plan, truth, order in runs_thrown(10, 30, 5, 9, 3):
            told = shares(net, plan, truth, order)
            for work, (least, greatest) in enumerate(ranges(net, plan, truth)):
                self.assertLessEqual(Fraction(*least), Fraction(*told[work]))
                self.assertLessEqual(Fraction(*told[work]), Fraction(*greatest))
                most = order_for(net, plan, truth, work)
                self.assertEqual(shares(net, plan, truth, most)[work], greatest)
                few = order_for(net, plan, truth, work, greatest=False)
                self.assertEqual(shares(net, plan, truth, few)[work], least)


if __name__ == "__main__":
    unittest.main()
