"""Points 7 and 8: who is followed, at lengths and as they begin to grow."""

import inspect
import unittest
from itertools import permutations, product

from lateshares import following
from lateshares.following import followed, followed_along
from lateshares.hours import hour
from tests.made import A, ALIKE, B, C, NETS, R0, R1, R2, Dice, all_lengths, lengths_made, net_made, order_made, plain
from tests.trial import counts_told, pair, real

ORDERS = list(permutations(range(3)))
NOUGHT = ((0, 1),) * 3
BIG = 10 ** 12 - 1


def whole(*numbers):
    return tuple((n, 1) for n in numbers)


class Asked(unittest.TestCase):
    def check(self, net, lengths, order, wanted):
        before = repr((net, lengths, order))
        told = followed(net, lengths, order)
        self.assertEqual(told, wanted, before)
        self.assertEqual(len(told), len(lengths))
        plain(self, told)
        self.assertEqual(followed(net, lengths, order), told)
        self.assertEqual(followed_along(net, lengths, ((0, 1),) * len(lengths), order), told, before)
        self.assertEqual(repr((net, lengths, order)), before)

    def check_along(self, net, lengths, slopes, order, wanted):
        before = repr((net, lengths, slopes, order))
        told = followed_along(net, lengths, slopes, order)
        self.assertEqual(told, wanted, before)
        self.assertEqual(len(told), len(lengths))
        plain(self, told)
        self.assertEqual(followed_along(net, lengths, slopes, order), told)
        self.assertEqual(repr((net, lengths, slopes, order)), before)

    def check_all_orders(self, net, lengths, wanted):
        for order in permutations(range(len(lengths))):
            self.check(net, lengths, order, wanted)


class Interface(unittest.TestCase):
    def test_names_and_arguments(self):
        wanted = {"followed": "(net, lengths, order)", "followed_along": "(net, lengths, slopes, order)"}
        for name, arguments in wanted.items():
            function = getattr(following, name)
            self.assertEqual(function.__module__, "lateshares.following")
            self.assertEqual(str(inspect.signature(function)), arguments, name)

    def test_by_names(self):
        net = ("last", A, B, C)
        self.assertEqual(followed(net=net, lengths=whole(3, 3, 1), order=(1, 0, 2)), (0, 1, 0))
        self.assertEqual(followed(order=(0, 1, 2), lengths=whole(3, 3, 1), net=net), (1, 0, 0))
        told = followed_along(order=(0, 1, 2), slopes=whole(0, 1, 9), lengths=whole(3, 3, 1), net=net)
        self.assertEqual(told, (0, 1, 0))
        self.assertEqual(followed_along(net, whole(3, 3, 1), slopes=whole(0, 0, 9), order=(1, 0, 2)), (0, 1, 0))


class Unlike(Asked):
    """Lengths by which no two sums are alike: the order doesn't matter."""

    def test_works_and_rests(self):
        lengths = ((1, 2), (5, 1), (7, 3))
        self.check_all_orders(A, lengths, (1, 0, 0))
        self.check_all_orders(B, lengths, (0, 1, 0))
        self.check_all_orders(C, lengths, (0, 0, 1))
        self.check_all_orders(R0, lengths, (0, 0, 0))
        self.check_all_orders(("rest", BIG), lengths, (0, 0, 0))
        self.check_all_orders(R2, ((0, 1),), (0,))
        self.check_all_orders(A, ((0, 1),), (1,))
        self.check_all_orders(("work", 5), ((0, 1),) * 6, (0, 0, 0, 0, 0, 1))

    def test_after(self):
        lengths = ((1, 2), (5, 1), (7, 3))
        self.check_all_orders(("after", A, B), lengths, (1, 1, 0))
        self.check_all_orders(("after", A, R1, A), lengths, (2, 0, 0))
        self.check_all_orders(("after", C, B, C, C), lengths, (0, 1, 3))
        self.check_all_orders(("after", R1, R2), lengths, (0, 0, 0))
        self.check_all_orders(("after", ("after", A, B), ("after", B, C)), lengths, (1, 2, 1))

    def test_last_and_first(self):
        lengths = ((1, 2), (5, 1), (7, 3))
        self.check_all_orders(("last", A, B, C), lengths, (0, 1, 0))
        self.check_all_orders(("last", C, A), lengths, (0, 0, 1))
        self.check_all_orders(("last", A, R1), lengths, (0, 0, 0))
        self.check_all_orders(("last", R0, A), lengths, (1, 0, 0))
        self.check_all_orders(("first", A, B, C), lengths, (1, 0, 0))
        self.check_all_orders(("first", C, B), lengths, (0, 0, 1))
        self.check_all_orders(("first", B, R1), lengths, (0, 0, 0))
        self.check_all_orders(("first", R2, R1, A, C), lengths, (1, 0, 0))

    def test_hours(self):
        lengths = ((1, 2), (5, 1), (7, 3))
        self.check_all_orders(("not_before", 4, B), lengths, (0, 1, 0))
        self.check_all_orders(("not_before", 6, B), lengths, (0, 0, 0))
        self.check_all_orders(("given_up", 4, B), lengths, (0, 0, 0))
        self.check_all_orders(("given_up", 6, B), lengths, (0, 1, 0))
        self.check_all_orders(("given_up", 0, ("after", A, B)), lengths, (0, 0, 0))
        self.check_all_orders(("not_before", 0, ("after", A, B)), lengths, (1, 1, 0))

    def test_nested(self):
        lengths = ((1, 2), (5, 1), (7, 3))
        self.check_all_orders(("after", ("last", A, C), ("first", A, C), ("not_before", 4, A)), lengths, (1, 0, 1))
        self.check_all_orders(("last", ("after", C, C, C), ("after", B, R1)), lengths, (0, 0, 3))
        self.check_all_orders(("after", ("last", B, C), ("last", B, A), ("first", B, A)), lengths, (1, 2, 0))

    def test_hardly_unlike(self):
        # So near to one another that only an exact comparison tells them apart.
        lengths = ((BIG - 1, BIG), (BIG - 2, BIG - 1), (1, 1))
        self.check_all_orders(("last", A, B), lengths, (1, 0, 0))
        self.check_all_orders(("first", A, B), lengths, (0, 1, 0))
        self.check_all_orders(("first", R1, A), lengths, (1, 0, 0))


class LittleNumbers(Asked):
    def test_works_that_are_alike(self):
        for order in ORDERS:
            for length in ((0, 1), (4, 1), (2, 3)):
                lengths = (length,) * 3
                for net in permutations((A, B, C)):
                    self.check(("last", *net), lengths, order, tuple(int(work == order[0]) for work in range(3)))
                    self.check(("first", *net), lengths, order, tuple(int(work == order[2]) for work in range(3)))
                self.check(("last", A, B), lengths, order, (1, 0, 0) if order.index(0) < order.index(1) else (0, 1, 0))
                self.check(("first", A, B), lengths, order, (0, 1, 0) if order.index(0) < order.index(1) else (1, 0, 0))

    def test_little_numbers_turn_no_other_comparison(self):
        lengths = ((BIG - 1, BIG), (1, 1), (1, 1))
        self.check(("last", A, B), lengths, (0, 1, 2), (0, 1, 0))
        self.check(("first", A, B), lengths, (0, 1, 2), (1, 0, 0))
        self.check(("last", ("after", A, A, A, A), ("after", B, B, R2)), lengths, (0, 1, 2), (0, 2, 0))

    def test_more_of_the_first_of_the_order(self):
        ones = whole(1, 1, 1)
        net = ("last", ("after", A, B, B), ("after", A, A, C), ("after", C, C, R1))
        self.check(net, ones, (0, 1, 2), (2, 0, 1))
        self.check(net, ones, (0, 2, 1), (2, 0, 1))
        self.check(net, ones, (1, 0, 2), (1, 2, 0))
        self.check(net, ones, (1, 2, 0), (1, 2, 0))
        self.check(net, ones, (2, 0, 1), (0, 0, 2))
        self.check(net, ones, (2, 1, 0), (0, 0, 2))
        net = ("first", *net[1:])
        self.check(net, ones, (0, 1, 2), (0, 0, 2))
        self.check(net, ones, (1, 0, 2), (0, 0, 2))
        self.check(net, ones, (1, 2, 0), (2, 0, 1))
        self.check(net, ones, (2, 0, 1), (1, 2, 0))

    def test_one_of_the_first_is_more_than_many_of_the_next(self):
        net = ("last", ("after", A, R2), ("after", B, B, B))
        self.check(net, whole(1, 1, 1), (0, 1, 2), (1, 0, 0))
        self.check(net, whole(1, 1, 1), (1, 0, 2), (0, 3, 0))
        net = ("last", ("after", A, ("rest", 15)), ("after", *[("after", B, B, B, B)] * 4))
        self.check(net, whole(1, 1, 1), (0, 1, 2), (1, 0, 0))
        self.check(net, whole(1, 1, 1), (1, 0, 2), (0, 16, 0))

    def test_alike_by_the_first_ones_too(self):
        net = ("first", ("after", A, B, C), ("after", A, C, C), ("after", A, R2))
        self.check(net, whole(5, 1, 1), (0, 1, 2), (1, 0, 0))
        net = ("last", ("after", A, B, R1), ("after", A, C, R1))
        self.check(net, whole(5, 1, 1), (0, 1, 2), (1, 1, 0))
        self.check(net, whole(5, 1, 1), (2, 0, 1), (1, 0, 1))
        self.check(net, whole(5, 1, 1), (0, 2, 1), (1, 0, 1))

    def test_works_and_rests_that_are_alike(self):
        for order in ORDERS:
            self.check(("last", A, R2), whole(2, 2, 2), order, (1, 0, 0))
            self.check(("last", R2, A), whole(2, 2, 2), order, (1, 0, 0))
            self.check(("first", A, R2), whole(2, 2, 2), order, (0, 0, 0))
            self.check(("first", R2, A), whole(2, 2, 2), order, (0, 0, 0))
            self.check(("last", R0, A), NOUGHT, order, (1, 0, 0))
            self.check(("first", R0, A), NOUGHT, order, (0, 0, 0))

    def test_hours_that_are_alike(self):
        for order in ORDERS:
            self.check(("not_before", 2, A), whole(2, 2, 2), order, (1, 0, 0))
            self.check(("not_before", 0, A), NOUGHT, order, (1, 0, 0))
            self.check(("given_up", 2, A), whole(2, 2, 2), order, (0, 0, 0))
            self.check(("given_up", 0, A), NOUGHT, order, (0, 0, 0))
            self.check(("not_before", 2, R2), whole(2, 2, 2), order, (0, 0, 0))
            self.check(("given_up", 2, R2), whole(2, 2, 2), order, (0, 0, 0))
            self.check(("not_before", 4, ("after", A, B)), whole(2, 2, 2), order, (1, 1, 0))
            self.check(("given_up", 4, ("after", A, B)), whole(2, 2, 2), order, (0, 0, 0))
            self.check(("not_before", 2, ("given_up", 2, A)), whole(2, 2, 2), order, (0, 0, 0))
            self.check(("given_up", 2, ("not_before", 2, A)), whole(2, 2, 2), order, (0, 0, 0))

    def test_a_work_behind_others(self):
        # Of length 0 it still makes its sum the greater one.
        for order in ORDERS:
            self.check(("last", A, ("after", A, B)), whole(3, 0, 0), order, (1, 1, 0))
            self.check(("first", A, ("after", A, B)), whole(3, 0, 0), order, (1, 0, 0))

    def test_alike_parts(self):
        for order in ORDERS:
            self.check(("last", A, A), whole(1, 1, 1), order, (1, 0, 0))
            self.check(("first", B, B, B), whole(1, 1, 1), order, (0, 1, 0))
            self.check(("last", ("after", A, B), ("after", B, A)), whole(1, 1, 1), order, (1, 1, 0))
            self.check(("last", R2, R2), whole(1, 1, 1), order, (0, 0, 0))

    def test_nets_that_end_alike(self):
        for one, other in ALIKE:
            for lengths in all_lengths(3, 0, 1, 2):
                for order in ORDERS:
                    self.check(one, lengths, order, followed(other, lengths, order))

    def test_all_of_few_lengths(self):
        for net in NETS:
            for lengths in all_lengths(3, 0, 1, 2):
                for order in ORDERS:
                    self.check(net, lengths, order, counts_told(net, real(lengths), order))

    def test_thrown(self):
        dice = Dice(7)
        for k in range(600):
            many = 1 + k % 6
            net = net_made(dice, many, k % 13, 4)
            lengths = lengths_made(dice, many, 4, 1 + k % 3)
            order = order_made(dice, many)
            self.check(net, lengths, order, counts_told(net, real(lengths), order))

    def test_the_sum_followed_comes_to_the_hour(self):
        dice = Dice(8)
        for k in range(100):
            net = net_made(dice, 4, 1 + k % 9)
            lengths = lengths_made(dice, 4, 9, 3)
            counts = followed(net, lengths, (2, 0, 3, 1))
            rest = real([hour(net, lengths)])[0] - sum(count * length for count, length in zip(counts, real(lengths)))
            self.assertEqual(rest.denominator, 1)
            self.assertGreaterEqual(rest, 0)


class Growing(Asked):
    def test_slopes_matter_only_where_hours_are_alike(self):
        for order in ORDERS:
            self.check_along(("last", A, B), whole(2, 1, 0), whole(-9, 9, 9), order, (1, 0, 0))
            self.check_along(("first", A, B), whole(2, 1, 0), whole(-9, 9, 9), order, (0, 1, 0))
            self.check_along(("not_before", 1, A), whole(2, 1, 0), whole(-BIG, 9, 9), order, (1, 0, 0))
            self.check_along(("last", A, B), ((BIG, BIG - 1), (1, 1), (0, 1)), whole(-BIG, BIG, 9), order, (1, 0, 0))

    def test_alike_and_growing_unlike(self):
        for order in ORDERS:
            self.check_along(("last", A, B), whole(2, 2, 0), whole(1, 2, 0), order, (0, 1, 0))
            self.check_along(("last", A, B), whole(2, 2, 0), whole(2, 1, 0), order, (1, 0, 0))
            self.check_along(("first", A, B), whole(2, 2, 0), whole(1, 2, 0), order, (1, 0, 0))
            self.check_along(("first", A, B), whole(2, 2, 0), whole(2, 1, 0), order, (0, 1, 0))
            self.check_along(("last", A, B), whole(2, 2, 0), whole(-2, -1, 0), order, (0, 1, 0))
            self.check_along(("first", A, B), whole(2, 2, 0), whole(-2, -1, 0), order, (1, 0, 0))
            self.check_along(("last", A, B), whole(2, 2, 0), ((1, 3), (2, 7), (0, 1)), order, (1, 0, 0))
            self.check_along(("first", A, B), whole(2, 2, 0), ((1, 3), (2, 7), (0, 1)), order, (0, 1, 0))
            self.check_along(("last", A, B, C), whole(2, 2, 2), whole(0, -1, 0), order,
                             (1, 0, 0) if order.index(0) < order.index(2) else (0, 0, 1))

    def test_hours_that_are_alike(self):
        for order in ORDERS:
            for slope, last, first in ((1, 1, 0), (0, 1, 0), (-1, 0, 1)):
                slopes = ((slope, 7), (0, 1), (0, 1)) if slope else NOUGHT
                self.check_along(("not_before", 2, A), whole(2, 0, 0), slopes, order, (last, 0, 0))
                self.check_along(("given_up", 2, A), whole(2, 0, 0), slopes, order, (first, 0, 0))
                self.check_along(("last", A, R2), whole(2, 0, 0), slopes, order, (last, 0, 0))
                self.check_along(("first", R2, A), whole(2, 0, 0), slopes, order, (first, 0, 0))

    def test_sums_grow_together(self):
        for order in ORDERS:
            net = ("last", ("after", A, B), ("after", C, C))
            self.check_along(net, whole(1, 3, 2), whole(2, -3, -1), order, (1, 1, 0))
            self.check_along(net, whole(1, 3, 2), whole(2, -3, 0), order, (0, 0, 2))
            self.check_along(("first", *net[1:]), whole(1, 3, 2), whole(2, -3, 0), order, (1, 1, 0))

    def test_alike_by_both(self):
        for slope in ((0, 1), (1, 1), (-1, 2), (5, 3)):
            for order in ORDERS:
                for lengths in (NOUGHT, whole(3, 3, 3)):
                    self.check_along(("last", A, B, C), lengths, (slope,) * 3, order,
                                     tuple(int(work == order[0]) for work in range(3)))
                    self.check_along(("first", A, B, C), lengths, (slope,) * 3, order,
                                     tuple(int(work == order[2]) for work in range(3)))
        net = ("last", ("after", A, A), ("after", B, C))
        self.check_along(net, whole(2, 1, 3), whole(2, 5, -1), (0, 1, 2), (2, 0, 0))
        self.check_along(net, whole(2, 1, 3), whole(2, 5, -1), (1, 0, 2), (0, 1, 1))
        self.check_along(net, whole(2, 1, 3), whole(2, 5, -1), (2, 0, 1), (0, 1, 1))

    def test_lengths_of_nought_that_fall(self):
        for order in ORDERS:
            self.check_along(("last", A, R0), NOUGHT, whole(-1, 0, 0), order, (0, 0, 0))
            self.check_along(("first", A, R0), NOUGHT, whole(-1, 0, 0), order, (1, 0, 0))
            self.check_along(("not_before", 0, A), NOUGHT, whole(-1, 0, 0), order, (0, 0, 0))
            self.check_along(("given_up", 0, A), NOUGHT, whole(-1, 0, 0), order, (1, 0, 0))
            self.check_along(("last", A, B), NOUGHT, whole(-1, -2, 0), order, (1, 0, 0))
            self.check_along(("first", A, B), NOUGHT, whole(-1, -2, 0), order, (0, 1, 0))
            self.check_along(("last", A, ("after", A, B)), NOUGHT, whole(0, -1, 0), order, (1, 0, 0))
            self.check_along(A, NOUGHT, whole(-1, 0, 0), order, (1, 0, 0))

    def test_all_of_few_slopes(self):
        for net in NETS[4::3]:
            for lengths, slopes in product(all_lengths(3, 0, 1), all_lengths(3, -1, 0, 2)):
                for order in ((0, 1, 2), (2, 0, 1)):
                    wanted = counts_told(net, real(lengths), order, real(slopes))
                    self.check_along(net, lengths, slopes, order, wanted)

    def test_thrown(self):
        dice = Dice(9)
        for k in range(600):
            many = 1 + k % 6
            net = net_made(dice, many, k % 13, 4)
            lengths = lengths_made(dice, many, 3, 1 + k % 2)
            slopes = tuple(pair(one - 1) for one in real(lengths_made(dice, many, 4, 1 + k % 3)))
            order = order_made(dice, many)
            self.check_along(net, lengths, slopes, order, counts_told(net, real(lengths), order, real(slopes)))

    def test_what_was_told_is_handed_in_again(self):
        length = hour(("after", A, B), ((1, 3), (1, 6)))
        self.check(("last", A, B), (length, (1, 2)), (1, 0), (0, 1))
        deep = A
        for _ in range(60):
            deep = ("last", ("after", deep, B), C)
        self.check(deep, whole(1, 1, 0), (0, 1, 2), (1, 60, 0))
        self.check(deep, whole(1, 1, 61), (0, 1, 2), (0, 59, 1))


if __name__ == "__main__":
    unittest.main()
