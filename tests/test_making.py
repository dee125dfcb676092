"""Point 14: nets parted, behind one another, of works called otherwise, raised."""

import unittest

from lateshares import making
from lateshares.errors import NoWork
from lateshares.following import followed, followed_along
from lateshares.fractions import sum_of
from lateshares.hours import hour
from lateshares.making import behind, called, parted, raised
from lateshares.nets import is_net, joins_in, works_in
from lateshares.papers import paper, shows_shares
from lateshares.runs import lateness, stretches, turns
from lateshares.sharing import order_for, ranges, shares
from lateshares.ways import greatests_of, leasts_of
from tests.anything import things, told_of
from tests.asked import Asked, runs_thrown, whole
from tests.made import A, B, C, NETS, R0, R1, R2, Dice, lengths_made, net_made, order_made
from tests.trial import all_shares, hour_told, pair, real

D, E, F = ("work", 3), ("work", 4), ("work", 5)
BIG = 10 ** 12 - 1
EACH = ("last", A, ("first", B, R2, ("after", C, R0)), ("not_before", 3, ("given_up", 0, A)), ("rest", BIG))


def made(net, work_as, rest_as):
    """A net with work_as(i) instead of each work, each rest and hour as rest_as tells."""
    if net[0] == "work":
        return work_as(net[1])
    if net[0] == "rest":
        return ("rest", rest_as(net[1]))
    if net[0] in ("not_before", "given_up"):
        return (net[0], rest_as(net[1]), made(net[2], work_as, rest_as))
    return (net[0], *[made(one, work_as, rest_as) for one in net[1:]])


def same(n):
    return n


class Making(Asked):
    def check(self, question, handed, wanted):
        told = self.ask(question, *handed)
        self.assertEqual(told, wanted, handed)
        return told


class Interface(Making):
    def test_names_and_arguments(self):
        self.check_interface(making, {
            "parted": "(net, work, many)", "behind": "(one, many, other)", "called": "(net, names)", "raised": "(net, k)",
        })

    def test_by_names(self):
        self.assertEqual(parted(many=2, work=1, net=B), ("after", B, C))
        self.assertEqual(behind(other=B, many=2, one=A), ("after", A, D))
        self.assertEqual(called(names=(1, 0), net=("last", A, B)), ("last", B, A))
        self.assertEqual(raised(k=3, net=R2), ("rest", 6))


class Parted(Making):
    def test_each_kind(self):
        both = ("after", B, D)
        self.check(parted, (B, 1, 3), both)
        self.check(parted, (R2, 1, 3), R2)
        for word in ("after", "last", "first"):
            self.check(parted, ((word, A, B), 1, 3), (word, A, both))
            self.check(parted, ((word, B, A, R1, B), 1, 3), (word, both, A, R1, both))
        for word in ("not_before", "given_up"):
            self.check(parted, ((word, 1, B), 1, 3), (word, 1, both))
            self.check(parted, ((word, 1, A), 1, 3), (word, 1, A))

    def test_each_work(self):
        for many in range(1, 7):
            for work in range(many):
                self.check(parted, (("work", work), work, many), ("after", ("work", work), ("work", many)))
                self.check(parted, (R1, work, many), R1)

    def test_nested(self):
        self.check(parted, (EACH, 0, 3), (
            "last", ("after", A, D), ("first", B, R2, ("after", C, R0)),
            ("not_before", 3, ("given_up", 0, ("after", A, D))), ("rest", BIG),
        ))

    def test_all(self):
        for net in NETS:
            for work in range(4):
                new = ("after", ("work", work), ("work", 4))
                wanted = made(net, lambda i: new if i == work else ("work", i), same)
                self.check(parted, (net, work, 4), wanted)

    def test_a_work_that_stands_nowhere(self):
        self.check(parted, (("last", A, C), 1, 3), ("last", A, C))
        self.check(parted, (A, 5, 6), A)

    def test_refused(self):
        for many in (0, 1, 3, 6):
            for work in (-7, -1, many, many + 1, 6, 12, BIG, -BIG):
                if not 0 <= work < many:
                    self.assertEqual(vars(self.refused(NoWork, parted, R1, work, many)), {"work": work})
        for thing in things():
            if type(thing) is int and 0 <= thing < 2:
                continue
            for net in (A, R1, ("last", A, B)):
                error = told_of(self, lambda one: self.bears(net, one), thing)
                self.assertIsNone(error)

    def bears(self, net, thing):
        with self.assertRaises(NoWork) as caught:
            parted(net, thing, 2)
        self.assertIs(type(caught.exception), NoWork)
        self.assertIs(caught.exception.work, thing)

    def test_twice_and_more_works_than_a_net_has(self):
        once = self.check(parted, (("last", A, B), 0, 2), ("last", ("after", A, C), B))
        twice = self.check(parted, (once, 2, 3), ("last", ("after", A, ("after", C, D)), B))
        self.assertEqual(works_in(twice), (0, 1, 2, 3))
        self.check(parted, (("work", 7), 7, 9), ("after", ("work", 7), ("work", 9)))

    def test_more_joins_than_a_net_has(self):
        net = ("after", *[("last", A, ("first", A, B), ("first", B, A)) for _ in range(3)])
        told = parted(net, 0, 2)
        self.assertEqual((joins_in(net), joins_in(told)), (10, 19))
        self.assertFalse(is_net(told, 3))
        self.assertEqual(hour(told, whole(1, 4, 2)), (9, 1))
        self.assertEqual(lateness(told, whole(1, 4, 2), whole(2, 4, 3)), (6, 1))


class Behind(Making):
    def test_each_kind(self):
        for one in (A, R2, EACH):
            self.check(behind, (one, 3, A), ("after", one, D))
            self.check(behind, (one, 3, R1), ("after", one, R1))
            for word in ("after", "last", "first"):
                self.check(behind, (one, 3, (word, B, R1, A)), ("after", one, (word, E, R1, D)))
            for word in ("not_before", "given_up"):
                self.check(behind, (one, 3, (word, 2, C)), ("after", one, (word, 2, F)))

    def test_all(self):
        for net in NETS:
            for other in NETS[::4]:
                self.check(behind, (net, 3, other), ("after", net, made(other, lambda i: ("work", i + 3), same)))

    def test_behind_itself(self):
        self.check(behind, (A, 1, A), ("after", A, B))
        self.check(behind, (EACH, 3, EACH), ("after", EACH, made(EACH, lambda i: ("work", i + 3), same)))

    def test_no_works_ahead(self):
        self.check(behind, (R1, 0, B), ("after", R1, B))
        self.check(behind, (R1, 0, R2), ("after", R1, R2))

    def test_works_that_stand_nowhere_are_counted(self):
        self.check(behind, (A, 6, A), ("after", A, ("work", 6)))
        self.check(behind, (R1, 4, ("last", A, B)), ("after", R1, ("last", E, F)))

    def test_again(self):
        net = A
        for many in range(1, 12):
            net = behind(net, many, A)
        self.assertEqual(works_in(net), tuple(range(12)))
        self.assertEqual(hour(net, whole(*range(12))), (66, 1))
        self.assertEqual(followed(net, whole(*range(12)), tuple(range(12))), (1,) * 12)


class Called(Making):
    def test_each_kind(self):
        names = (2, 0, 1)
        for net, wanted in ((A, C), (B, A), (C, B), (R2, R2)):
            self.check(called, (net, names), wanted)
            for word in ("after", "last", "first"):
                self.check(called, ((word, net, R1, net), names), (word, wanted, R1, wanted))
            for word in ("not_before", "given_up"):
                self.check(called, ((word, 2, net), names), (word, 2, wanted))
        self.check(called, (R2, ()), R2)

    def test_all(self):
        for net in NETS:
            for names in ((0, 1, 2), (1, 0, 2), (1, 2, 0), (2, 0, 1)):
                self.check(called, (net, names), made(net, lambda i: ("work", names[i]), same))

    def test_there_and_back(self):
        dice = Dice(51)
        for k in range(60):
            many = 1 + k % 6
            net, names = net_made(dice, many, k % 13), order_made(dice, many)
            back = tuple(names.index(work) for work in range(many))
            self.check(called, (called(net, names), back), net)
            self.check(called, (called(net, back), names), net)
            self.check(called, (net, tuple(range(many))), net)

    def test_shares_of_works_called_otherwise(self):
        for net, plan, truth, order in runs_thrown(52, 80, 6, 12, 4):
            many = len(plan)
            names = tuple((work + 1) % many for work in range(many))[::-1]
            back = [names.index(work) for work in range(many)]
            told = shares(called(net, names), *[tuple(some[i] for i in back) for some in (plan, truth)],
                          tuple(names[work] for work in order))
            self.assertEqual(told, tuple(shares(net, plan, truth, order)[i] for i in back))


class Raised(Making):
    def test_each_kind(self):
        for k in (1, 2, 7, 100):
            self.check(raised, (A, k), A)
            self.check(raised, (R0, k), R0)
            self.check(raised, (R2, k), ("rest", 2 * k))
            for word in ("after", "last", "first"):
                self.check(raised, ((word, A, R1, R2, B), k), (word, A, ("rest", k), ("rest", 2 * k), B))
            for word in ("not_before", "given_up"):
                self.check(raised, ((word, 3, A), k), (word, 3 * k, A))
                self.check(raised, ((word, 0, R1), k), (word, 0, ("rest", k)))

    def test_all(self):
        for net in [*NETS, EACH]:
            self.check(raised, (net, 1), net)
            for k in (2, 3, 1000):
                self.check(raised, (net, k), made(net, lambda i: ("work", i), lambda n: n * k))

    def test_hours_so_many_times(self):
        for net, plan, _, _ in runs_thrown(53, 60, 6, 12):
            for k in (1, 2, 5):
                n, d = hour(net, plan)
                more = tuple(pair(k * one) for one in real(plan))
                self.assertEqual(real([hour(raised(net, k), more)]), [k * one for one in real([(n, d)])])


class HandedIn(Making):
    """What these tell is handed in to what else there is, with lengths and orders of more works."""

    def test_two_nets_of_six_works(self):
        dice = Dice(54)
        for k in range(12):
            one, other = net_made(dice, 6, 12, 5), net_made(dice, 6, 10, 5)
            net = parted(behind(one, 6, other), k, 12)
            plan, truth = lengths_made(dice, 13, 5, 2), lengths_made(dice, 13, 5, 3)
            order = order_made(dice, 13)
            self.assertEqual(hour(net, plan), pair(hour_told(net, real(plan))))
            told = shares(net, plan, truth, order)
            self.assertEqual(sum_of(told), lateness(net, plan, truth))
            self.assertEqual(len(followed_along(net, plan, truth, order)), 13)
            for begin, end, counts in stretches(net, plan, truth, order):
                self.assertEqual(len(counts), 13)
            self.assertIs(shows_shares(net, plan, truth, order, paper(net, plan, truth, order)), True)
            self.assertEqual(raised(called(net, tuple(range(13))), 1), net)
            self.assertEqual(works_in(called(net, order)), tuple(sorted(order[i] for i in works_in(net))))

    def test_ranges_of_more_works(self):
        # Twelve works have 479,001,600 orders: the tied ones alone matter.
        one, other = ("last", A, B, ("after", C, D)), ("first", E, ("last", F, A))
        net = behind(one, 6, other)
        plan = whole(1, 1, 0, 0, 1, 1, 2, 3, 3, 3, 4, 4)
        truth = whole(4, 4, 2, 1, 1, 1, 5, 6, 6, 6, 6, 8)
        known = {}
        for order, some in all_shares(one, real(plan[:4]), real(truth[:4])):
            known[order] = some
        told = ranges(net, plan, truth)
        self.assertEqual(told[:2], (((0, 1), (3, 1)), ((0, 1), (3, 1))))
        self.assertEqual([max(some[work] for some in known.values()) for work in range(2)], [3, 3])
        for work in range(12):
            for greatest in (True, False):
                order = order_for(net, plan, truth, work, greatest=greatest)
                self.assertEqual(shares(net, plan, truth, order)[work], told[work][greatest])
        self.assertEqual(order_for(net, plan, truth, 1), (1, 0, *range(2, 12)))
        self.assertEqual(order_for(net, plan, truth, 0, greatest=False), (1, 0, *range(2, 12)))
        self.assertEqual(order_for(net, plan, truth, 11, greatest=False), tuple(range(12)))

    def test_orders_with_works_that_are_not_tied_between(self):
        # Works 1, 4 and 6 are tied, the others stand as early as they can.
        net = ("last", ("work", 6), ("work", 1), ("work", 4), ("first", A, C))
        plan, truth = whole(0, 2, 0, 0, 2, 0, 2), whole(1, 5, 1, 1, 5, 1, 5)
        self.assertEqual(order_for(net, plan, truth, 1), (0, 1, 2, 3, 4, 5, 6))
        self.assertEqual(order_for(net, plan, truth, 4), (0, 2, 3, 4, 1, 5, 6))
        self.assertEqual(order_for(net, plan, truth, 6), (0, 2, 3, 5, 6, 1, 4))
        self.assertEqual(order_for(net, plan, truth, 1, greatest=False), (0, 2, 3, 4, 1, 5, 6))
        self.assertEqual(ranges(net, plan, truth)[1], ((0, 1), (3, 1)))

    def test_deep_nets(self):
        # So deep that no function may call itself for each join.
        net = ("last", A, R1)
        for k in range(1500):
            net = ("first", behind(net, 1, R1), ("rest", BIG)) if k % 3 else behind(net, 1, R1)
        net = called(parted(raised(net, 2), 0, 1), (1, 0))
        self.assertEqual(joins_in(net), 2502)
        self.assertEqual(works_in(net), (0, 1))
        self.assertEqual(hour(net, whole(4, 5)), (3009, 1))
        self.assertEqual(hour(net, whole(1, 0)), (3002, 1))
        self.assertEqual(followed(net, whole(4, 5), (0, 1)), (1, 1))
        run = net, whole(0, 0), whole(2, 2), (0, 1)
        self.assertEqual(turns(*run[:3]), ((1, 2),))
        self.assertEqual(shares(*run), whole(1, 1))
        self.assertIs(shows_shares(*run, paper(*run)), True)

    def test_deep_ways(self):
        net = ("last", A, R1)
        for _ in range(1200):
            net = behind(net, 1, R1)
        self.assertEqual(leasts_of(net, 1), ((((0,), 1201),), (((1,), 1200),)))
        self.assertEqual(greatests_of(net, 1), ((((0,), 1201), ((1,), 1200)),))


if __name__ == "__main__":
    unittest.main()
