"""Point 6: when a net ends."""

import inspect
import unittest

from lateshares import hours
from lateshares.hours import hour
from tests.made import A, B, C, NETS, R0, R1, R2, Dice, all_lengths, lengths_made, net_made, plain
from tests.trial import hour_told, pair, real

HALF = (1, 2)
BIG = 10 ** 12 - 1
# Of works 0 to 2: 1/2, 5, 7/3.
SOME = (HALF, (5, 1), (7, 3))


class Interface(unittest.TestCase):
    def test_names_and_arguments(self):
        self.assertEqual(hour.__module__, "lateshares.hours")
        self.assertIs(hours.hour, hour)
        self.assertEqual(str(inspect.signature(hour)), "(net, lengths)")
        self.assertEqual(hour(net=("last", A, B), lengths=SOME), (5, 1))
        self.assertEqual(hour(lengths=SOME, net=("first", A, B)), HALF)


class Hour(unittest.TestCase):
    def check(self, net, lengths, wanted):
        before = repr((net, lengths))
        told = hour(net, lengths)
        self.assertEqual(told, wanted, before)
        plain(self, told)
        self.assertEqual(hour(net, lengths), told)
        self.assertEqual(repr((net, lengths)), before)

    def test_works_and_rests(self):
        for work, length in enumerate(SOME):
            self.check(("work", work), SOME, length)
        for n in (0, 1, 2, 9, BIG):
            self.check(("rest", n), SOME, (n, 1))
            self.check(("rest", n), (), (n, 1))
        self.check(("work", 5), ((0, 1),) * 5 + ((BIG, BIG - 1),), (BIG, BIG - 1))

    def test_after(self):
        self.check(("after", A, B), SOME, (11, 2))
        self.check(("after", A, A), SOME, (1, 1))
        self.check(("after", A, C), SOME, (17, 6))
        self.check(("after", A, C, B), SOME, (47, 6))
        self.check(("after", R1, R2), SOME, (3, 1))
        self.check(("after", R0, A, R0, R2), SOME, (5, 2))
        self.check(("after", C, C, C, C), SOME, (28, 3))
        self.check(("after", R0, R0), SOME, (0, 1))

    def test_last_and_first(self):
        for word, best in (("last", max), ("first", min)):
            for nets in [(A, B), (B, A), (A, B, C), (C, B, A), (B, C, A), (A, C, B, R2), (R2, R2, B, C), (A, A), (R1, R1),
                         (R0, A), (A, R0), (B, B, B, R2), (R2, C), (R1, R2, R0), (("rest", 5), B)]:
                wanted = best(real(SOME[net[1]] if net[0] == "work" else (net[1], 1) for net in nets))
                self.check((word, *nets), SOME, pair(wanted))
        self.check(("last", A, B, C), SOME, (5, 1))
        self.check(("first", C, B, A), SOME, HALF)
        self.check(("first", C, B), SOME, (7, 3))

    def test_hours(self):
        self.check(("not_before", 0, A), SOME, HALF)
        self.check(("not_before", 1, A), SOME, (1, 1))
        self.check(("not_before", 2, C), SOME, (7, 3))
        self.check(("not_before", 3, C), SOME, (3, 1))
        self.check(("not_before", 5, B), SOME, (5, 1))
        self.check(("not_before", BIG, B), SOME, (BIG, 1))
        self.check(("given_up", 0, A), SOME, (0, 1))
        self.check(("given_up", 1, A), SOME, HALF)
        self.check(("given_up", 2, C), SOME, (2, 1))
        self.check(("given_up", 3, C), SOME, (7, 3))
        self.check(("given_up", 5, B), SOME, (5, 1))
        self.check(("given_up", BIG, B), SOME, (5, 1))

    def test_nested(self):
        self.check(("after", ("last", A, C), ("first", A, C), ("not_before", 4, A)), SOME, (41, 6))
        self.check(("last", ("after", A, A, A), ("given_up", 1, B), ("first", R2, ("after", R1, A))), SOME, (3, 2))
        self.check(("not_before", 3, ("given_up", 2, ("after", B, B))), SOME, (3, 1))
        self.check(("given_up", 3, ("not_before", 2, ("first", A, B))), SOME, (2, 1))
        net = A
        for _ in range(12):
            net = ("after", net, B)
        self.check(net, SOME, (121, 2))
        net = A
        for n in range(6):
            net = ("not_before", 3, ("given_up", 4 + n, net))
        self.check(net, SOME, (3, 1))

    def test_noughts(self):
        nought = ((0, 1),) * 3
        for net in NETS:
            self.check(net, nought, (hour_told(net, [0, 0, 0]), 1))
        self.check(("last", A, B), nought, (0, 1))
        self.check(("first", A, R1), nought, (0, 1))

    def test_all_of_few_lengths(self):
        for net in NETS:
            for lengths in all_lengths(3, 0, 1, 2):
                self.check(net, lengths, pair(hour_told(net, real(lengths))))

    def test_thrown(self):
        dice = Dice(6)
        for k in range(600):
            many = 1 + k % 6
            net = net_made(dice, many, k % 13)
            lengths = lengths_made(dice, many, 30, 1 + k % 7)
            self.check(net, lengths, pair(hour_told(net, real(lengths))))

    def test_big_numbers(self):
        lengths = ((BIG, BIG - 1), (BIG - 2, BIG), (BIG, 1))
        for net in NETS:
            self.check(net, lengths, pair(hour_told(net, real(lengths))))

    def test_what_was_told_is_handed_in_again(self):
        told = hour(("after", A, B, C), SOME)
        self.check(("after", A, A), (told,), (47, 3))
        deep = A
        for _ in range(60):
            deep = ("after", deep, ("work", 1))
        self.check(deep, ((1, 3), told), (1411, 3))


if __name__ == "__main__":
    unittest.main()
