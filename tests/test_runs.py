"""Point 9: moments, the lateness, turns and stretches of a run."""

import inspect
import unittest
from fractions import Fraction
from itertools import permutations

from lateshares import runs
from lateshares.following import followed, followed_along
from lateshares.fractions import is_fraction
from lateshares.hours import hour
from lateshares.runs import lateness, lengths_at, stretches, turns
from tests.asked import whole
from tests.made import A, ALIKE, B, C, NETS, R0, R1, R2, Dice, all_runs, lengths_made, net_made, order_made, plain
from tests.trial import hour_told, pair, real, rows_told, turns_told

ORDERS = list(permutations(range(3)))
BIG = 10 ** 12 - 1
HALF = (1, 2)


def runs_thrown(seed, many_runs, most_joins=6):
    """(net, plan, truth, order), small enough that all their sums can be put together."""
    dice = Dice(seed)
    for k in range(many_runs):
        many = 1 + k % 4
        net = net_made(dice, many, k % (most_joins + 1), 6)
        plan, truth = lengths_made(dice, many, 6, 1 + k % 3), lengths_made(dice, many, 8, 1 + k % 2)
        yield net, plan, truth, order_made(dice, many)


class Asked(unittest.TestCase):
    def ask(self, question, *handed):
        """What is told, twice the same, of plain things, nothing handed in being changed."""
        before = repr(handed)
        told = question(*handed)
        plain(self, told)
        self.assertIs(type(told), tuple)
        self.assertEqual(question(*handed), told)
        self.assertEqual(repr(handed), before)
        return told

    def check_turns(self, net, plan, truth, wanted):
        self.assertEqual(self.ask(turns, net, plan, truth), wanted, (net, plan, truth))

    def check_stretches(self, net, plan, truth, order, wanted):
        self.assertEqual(self.ask(stretches, net, plan, truth, order), wanted, (net, plan, truth, order))


class Interface(unittest.TestCase):
    def test_names_and_arguments(self):
        wanted = {
            "lengths_at": "(plan, truth, t)", "lateness": "(net, plan, truth)", "turns": "(net, plan, truth)",
            "stretches": "(net, plan, truth, order)",
        }
        for name, arguments in wanted.items():
            function = getattr(runs, name)
            self.assertEqual(function.__module__, "lateshares.runs")
            self.assertEqual(str(inspect.signature(function)), arguments, name)

    def test_by_names(self):
        net, plan, truth = ("last", A, B), whole(4, 2), whole(6, 8)
        self.assertEqual(lengths_at(t=HALF, truth=truth, plan=plan), whole(5, 5))
        self.assertEqual(lateness(truth=truth, plan=plan, net=net), (4, 1))
        self.assertEqual(turns(truth=truth, plan=plan, net=net), (HALF,))
        told = stretches(order=(0, 1), truth=truth, plan=plan, net=net)
        self.assertEqual(told, (((0, 1), HALF, (1, 0)), (HALF, (1, 1), (0, 1))))


class LengthsAt(Asked):
    def test_ends(self):
        for plan, truth in all_runs(2, 0, 1, 5):
            self.assertEqual(self.ask(lengths_at, plan, truth, (0, 1)), plan)
            self.assertEqual(self.ask(lengths_at, plan, truth, (1, 1)), truth)

    def test_between(self):
        plan, truth = ((0, 1), (4, 1), (1, 2), (3, 1)), ((6, 1), (1, 1), (1, 3), (3, 1))
        self.assertEqual(self.ask(lengths_at, plan, truth, HALF), ((3, 1), (5, 2), (5, 12), (3, 1)))
        self.assertEqual(self.ask(lengths_at, plan, truth, (1, 3)), ((2, 1), (3, 1), (4, 9), (3, 1)))
        self.assertEqual(self.ask(lengths_at, plan, truth, (2, 3)), ((4, 1), (2, 1), (7, 18), (3, 1)))
        self.assertEqual(self.ask(lengths_at, plan, truth, (BIG - 1, BIG))[3], (3, 1))
        self.assertEqual(self.ask(lengths_at, (), (), HALF), ())

    def test_all_are_fractions(self):
        dice = Dice(1)
        for k in range(100):
            plan, truth = lengths_made(dice, 6, 9, 9), lengths_made(dice, 6, 9, 9)
            t = (dice.below(8), 7) if k % 2 else (2 * dice.below(4) + 1, 8)
            t = pair(Fraction(*t))
            told = self.ask(lengths_at, plan, truth, t)
            wanted = [early * (1 - Fraction(*t)) + late * Fraction(*t) for early, late in zip(real(plan), real(truth))]
            self.assertEqual([pair(one) for one in wanted], list(told))
            self.assertTrue(all(is_fraction(one) for one in told))


class Lateness(Asked):
    def test_above_at_and_below_nought(self):
        net = ("last", ("after", A, B), ("not_before", 9, C))
        self.assertEqual(self.ask(lateness, net, whole(1, 2, 3), whole(6, 8, 12)), (5, 1))
        self.assertEqual(self.ask(lateness, net, whole(6, 8, 12), whole(1, 2, 3)), (-5, 1))
        self.assertEqual(self.ask(lateness, net, whole(1, 2, 3), whole(3, 4, 9)), (0, 1))
        self.assertEqual(self.ask(lateness, net, whole(1, 2, 3), whole(1, 2, 3)), (0, 1))
        self.assertEqual(self.ask(lateness, net, whole(9, 9, 9), ((9, 2), (16, 3), (9, 1))), (-49, 6))
        self.assertEqual(self.ask(lateness, R2, (), ()), (0, 1))
        self.assertEqual(self.ask(lateness, A, ((1, 2),), ((1, 3),)), (-1, 6))
        self.assertEqual(self.ask(lateness, ("first", A, B), whole(1, 5), whole(7, 4)), (3, 1))

    def test_thrown(self):
        for net, plan, truth, _ in runs_thrown(2, 200, 12):
            wanted = Fraction(hour_told(net, real(truth))) - hour_told(net, real(plan))
            self.assertEqual(self.ask(lateness, net, plan, truth), pair(wanted))


class Turns(Asked):
    def test_none(self):
        for net in (A, R0, R2, ("after", A, B, R1), ("last", A, A), ("last", R1, R2)):
            for plan, truth in all_runs(3, 0, 3):
                self.check_turns(net, plan, truth, ())
        for net in NETS:
            self.check_turns(net, whole(1, 2, 2), whole(1, 2, 2), ())
            self.check_turns(net, whole(0, 0, 0), whole(0, 0, 0), ())

    def test_none_at_the_ends(self):
        # The sums meet at the plan, or at the truth, and go on otherwise than they would have come.
        self.check_turns(("last", A, B), whole(2, 2), whole(5, 7), ())
        self.check_turns(("last", A, B), whole(5, 7), whole(2, 2), ())
        self.check_turns(("first", A, R2), whole(2), whole(5), ())
        self.check_turns(("not_before", 2, A), whole(5), whole(2), ())
        self.check_turns(("not_before", 2, A), whole(0), whole(2), ())
        self.check_turns(("given_up", 2, A), whole(2), whole(0), ())

    def test_two_sums_that_cross(self):
        self.check_turns(("last", A, B), whole(4, 0), whole(4, 6), ((2, 3),))
        self.check_turns(("first", A, B), whole(4, 0), whole(4, 6), ((2, 3),))
        self.check_turns(("last", A, B), whole(4, 6), whole(4, 0), ((1, 3),))
        self.check_turns(("not_before", 3, A), whole(1), whole(6), ((2, 5),))
        self.check_turns(("given_up", 3, A), whole(1), whole(6), ((2, 5),))
        self.check_turns(("last", ("after", A, R1), ("after", B, C)), whole(4, 1, 2), whole(5, 4, 5), ((2, 5),))
        self.check_turns(("last", A, B), ((1, 2), (1, 3)), ((2, 3), (3, 4)), (((2, 3)),))
        self.check_turns(("last", A, B), whole(BIG, 0), whole(BIG - 1, BIG), ((BIG, BIG + 1),))

    def test_none_where_the_hour_does_not_turn(self):
        # At the half one work takes another one's place, and grows as it did.
        self.check_turns(("after", ("last", A, R1), ("first", B, R1)), whole(0, 0), whole(2, 2), ())
        # Two sums are alike all along.
        self.check_turns(("last", ("after", A, B), C), whole(1, 1, 2), whole(3, 1, 4), ())
        # Works cross where nobody follows them.
        self.check_turns(("last", ("first", A, B), ("rest", 9)), whole(0, 4), whole(8, 4), ())
        self.check_turns(("first", ("last", A, B), R0), whole(0, 4), whole(8, 4), ())
        # The least of both comes up to 2 at the half, and falls again.
        self.check_turns(("last", R2, ("first", A, B)), whole(0, 4), whole(4, 0), ())

    def test_several(self):
        net = ("last", A, B, C)
        self.check_turns(net, whole(6, 4, 0), whole(6, 8, 10), (HALF, (2, 3)))
        self.check_turns(net, whole(6, 5, 0), whole(6, 9, 12), ((1, 4), (5, 8)))
        net = ("after", ("not_before", 1, A), ("given_up", 3, A), ("last", A, R2))
        self.check_turns(net, whole(0), whole(4), ((1, 4), HALF, (3, 4)))
        self.check_turns(net, whole(4), whole(0), ((1, 4), HALF, (3, 4)))
        self.check_turns(net, whole(1), whole(3), (HALF,))

    def test_rising_as_numbers(self):
        # As tuples these would rise otherwise.
        net = ("after", ("last", A, ("rest", 10)), ("last", A, ("rest", 15)), ("last", A, ("rest", 24)))
        self.check_turns(net, whole(0), whole(30), ((1, 3), (1, 2), (4, 5)))
        net = ("after", ("last", A, ("rest", 5)), ("last", A, ("rest", 9)), ("last", A, ("rest", 20)))
        self.check_turns(net, whole(0), whole(30), ((1, 6), (3, 10), (2, 3)))

    def test_each_once(self):
        self.check_turns(("last", A, B, C), whole(6, 4, 0), whole(6, 8, 12), (HALF,))
        net = ("after", ("last", A, R2), ("first", A, B), ("last", A, R2))
        self.check_turns(net, whole(0, 2), whole(4, 2), (HALF,))

    def test_two_at_once_that_make_none(self):
        self.check_turns(("after", ("last", A, R2), ("first", A, R2)), whole(0), whole(4), ())

    def test_the_hour_along_turns_there(self):
        dice = Dice(3)
        for k in range(60):
            net = net_made(dice, 5, 4 + k % 9)
            plan, truth = lengths_made(dice, 5, 20), lengths_made(dice, 5, 20)
            told = self.ask(turns, net, plan, truth)
            marks = [Fraction(0), *[Fraction(*t) for t in told], Fraction(1)]
            self.assertEqual(marks, sorted(set(marks)))
            # In a stretch without a turn the hour of the middle is the middle of the hours.
            for begin, end in zip(marks, marks[1:]):
                hours = real(hour(net, lengths_at(plan, truth, pair(t))) for t in (begin, (begin + end) / 2, end))
                self.assertEqual(hours[1] * 2, hours[0] + hours[2])

    def test_all_of_few_runs(self):
        for net in NETS:
            for plan, truth in all_runs(3, 0, 1, 3)[::7]:
                wanted = turns_told(net, real(plan), real(truth))
                self.check_turns(net, plan, truth, tuple(pair(t) for t in wanted))

    def test_thrown(self):
        for net, plan, truth, _ in runs_thrown(4, 300):
            wanted = turns_told(net, real(plan), real(truth))
            self.check_turns(net, plan, truth, tuple(pair(t) for t in wanted))


class Stretches(Asked):
    def check_whole(self, net, plan, truth, order):
        """All that is told of stretches but their number."""
        rows = self.ask(stretches, net, plan, truth, order)
        self.assertGreaterEqual(len(rows), 1)
        self.assertEqual((rows[0][0], rows[-1][1]), ((0, 1), (1, 1)))
        slopes = tuple(pair(late - early) for early, late in zip(real(plan), real(truth)))
        for row in rows:
            self.assertEqual(len(row), 3)
            begin, end = real(row[:2])
            self.assertLess(begin, end)
            for t in (begin, begin + (end - begin) / 10 ** 9, (begin + end) / 2, end - (end - begin) / 10 ** 9):
                lengths = lengths_at(plan, truth, pair(t))
                self.assertEqual(followed_along(net, lengths, slopes, order), row[2])
                if t > begin:
                    self.assertEqual(followed(net, lengths, order), row[2])
        for one, other in zip(rows, rows[1:]):
            self.assertEqual(one[1], other[0])
            self.assertNotEqual(one[2], other[2])

    def test_one_alone(self):
        for order in ORDERS:
            for plan, truth in all_runs(3, 0, 3):
                self.check_stretches(A, plan, truth, order, (((0, 1), (1, 1), (1, 0, 0)),))
                self.check_stretches(R2, plan, truth, order, (((0, 1), (1, 1), (0, 0, 0)),))
                self.check_stretches(("after", C, B, C), plan, truth, order, (((0, 1), (1, 1), (0, 1, 2)),))

    def test_a_truth_that_is_the_plan(self):
        for net in NETS:
            for lengths in (whole(0, 0, 0), whole(2, 2, 2), whole(1, 2, 1), ((1, 2), (7, 3), (2, 1))):
                for order in ORDERS:
                    counts = followed(net, lengths, order)
                    self.check_stretches(net, lengths, lengths, order, (((0, 1), (1, 1), counts),))
        self.check_stretches(R1, (), (), (), (((0, 1), (1, 1), ()),))

    def test_two_that_cross(self):
        for order in ORDERS:
            plan, truth = whole(4, 0, 9), whole(4, 6, 9)
            self.check_stretches(("last", A, B), plan, truth, order,
                                 (((0, 1), (2, 3), (1, 0, 0)), ((2, 3), (1, 1), (0, 1, 0))))
            self.check_stretches(("first", A, B), plan, truth, order,
                                 (((0, 1), (2, 3), (0, 1, 0)), ((2, 3), (1, 1), (1, 0, 0))))
            self.check_stretches(("not_before", 3, B), plan, truth, order,
                                 (((0, 1), HALF, (0, 0, 0)), (HALF, (1, 1), (0, 1, 0))))
            self.check_stretches(("given_up", 3, B), plan, truth, order,
                                 (((0, 1), HALF, (0, 1, 0)), (HALF, (1, 1), (0, 0, 0))))

    def test_several(self):
        net = ("last", A, B, C)
        for order in ORDERS:
            self.check_stretches(net, whole(6, 5, 0), whole(6, 9, 12), order, (
                ((0, 1), (1, 4), (1, 0, 0)), ((1, 4), (5, 8), (0, 1, 0)), ((5, 8), (1, 1), (0, 0, 1))))
        net = ("after", ("not_before", 1, A), ("given_up", 3, A), ("last", A, R2))
        self.check_stretches(net, whole(0), whole(4), (0,), (
            ((0, 1), (1, 4), (1,)), ((1, 4), HALF, (2,)), (HALF, (3, 4), (3,)), ((3, 4), (1, 1), (2,))))
        # Followed, not followed, and followed again.
        net = ("after", ("given_up", 1, A), ("not_before", 2, A))
        self.check_stretches(net, whole(0), whole(4), (0,), (
            ((0, 1), (1, 4), (1,)), ((1, 4), HALF, (0,)), (HALF, (1, 1), (1,))))
        net = ("first", ("last", A, R1), ("last", B, R2))
        self.check_stretches(net, whole(0, 9), whole(4, 9), (0, 1),
                             (((0, 1), (1, 4), (0, 0)), ((1, 4), (1, 1), (1, 0))))

    def test_counts_change_where_the_hour_does_not_turn(self):
        # At the half one work takes another one's place, and grows as it did.
        net = ("after", ("last", A, R1), ("first", B, R1))
        for order in ((0, 1), (1, 0)):
            self.check_turns(net, whole(0, 0), whole(2, 2), ())
            self.check_stretches(net, whole(0, 0), whole(2, 2), order, (((0, 1), HALF, (0, 1)), (HALF, (1, 1), (1, 0))))
        # A and B are alike and go on so; from the half on, C is ahead of A, so that B is the least whatever the order.
        net = ("first", ("last", A, C), ("last", B, R0))
        for order in ORDERS:
            rows = (((0, 1), (1, 1), (0, 1, 0)),)
            if order.index(0) > order.index(1):
                rows = (((0, 1), HALF, (1, 0, 0)), (HALF, (1, 1), (0, 1, 0)))
            self.check_turns(net, whole(2, 2, 0), whole(2, 2, 4), ())
            self.check_stretches(net, whole(2, 2, 0), whole(2, 2, 4), order, rows)

    def test_counts_are_alike_where_something_crosses(self):
        # The least of both comes up to 2 at the half, and falls again.
        net = ("last", R2, ("first", A, B))
        self.check_stretches(net, whole(0, 4), whole(4, 0), (0, 1), (((0, 1), (1, 1), (0, 0)),))
        # A is followed by both ways, then by the other one alone.
        net = ("last", ("given_up", 2, A), ("first", A, ("rest", 9)))
        self.check_stretches(net, whole(0), whole(4), (0,), (((0, 1), (1, 1), (1,)),))
        net = ("after", ("last", A, R2), ("first", A, R2))
        self.check_stretches(net, whole(0), whole(4), (0,), (((0, 1), (1, 1), (1,)),))

    def test_alike_all_along(self):
        for order in ORDERS:
            for plan, truth in ((whole(0, 0, 0), whole(3, 3, 3)), (whole(3, 3, 3), whole(1, 1, 1))):
                self.check_stretches(("last", A, B, C), plan, truth, order,
                                     (((0, 1), (1, 1), tuple(int(work == order[0]) for work in range(3))),))
                self.check_stretches(("first", A, B, C), plan, truth, order,
                                     (((0, 1), (1, 1), tuple(int(work == order[2]) for work in range(3))),))

    def test_alike_at_the_ends_alone(self):
        twos, noughts = whole(2, 2, 0), whole(0, 0, 0)
        for order in ORDERS:
            self.check_stretches(("last", A, B), twos, whole(5, 7, 0), order, (((0, 1), (1, 1), (0, 1, 0)),))
            self.check_stretches(("last", A, B), whole(5, 7, 0), twos, order, (((0, 1), (1, 1), (0, 1, 0)),))
            self.check_stretches(("first", A, R2), twos, noughts, order, (((0, 1), (1, 1), (1, 0, 0)),))
            self.check_stretches(("last", A, R0), twos, noughts, order, (((0, 1), (1, 1), (1, 0, 0)),))
            self.check_stretches(("last", A, R2), twos, noughts, order, (((0, 1), (1, 1), (0, 0, 0)),))

    def test_nobody_follows_where_they_cross(self):
        for order in ORDERS:
            self.check_stretches(("last", ("first", A, B), ("rest", 9)), whole(0, 4, 0), whole(8, 4, 0), order,
                                 (((0, 1), (1, 1), (0, 0, 0)),))
            self.check_stretches(("after", C, ("first", ("last", A, B), R0)), whole(0, 4, 0), whole(8, 4, 0), order,
                                 (((0, 1), (1, 1), (0, 0, 1)),))

    def test_the_last_stretch_may_be_very_short(self):
        plan, truth = whole(BIG, 0), whole(BIG - 1, BIG)
        self.check_stretches(("last", A, B), plan, truth, (0, 1),
                             (((0, 1), (BIG, BIG + 1), (1, 0)), ((BIG, BIG + 1), (1, 1), (0, 1))))

    def test_all_of_few_runs(self):
        for k, net in enumerate(NETS):
            for plan, truth in all_runs(3, 0, 1, 3)[k % 11::11]:
                for order in ((0, 1, 2), (2, 0, 1)):
                    rows = rows_told(net, real(plan), real(truth), order)
                    wanted = tuple((pair(begin), pair(end), counts) for begin, end, counts in rows)
                    self.check_stretches(net, plan, truth, order, wanted)

    def test_thrown(self):
        for net, plan, truth, order in runs_thrown(5, 300):
            rows = rows_told(net, real(plan), real(truth), order)
            wanted = tuple((pair(begin), pair(end), counts) for begin, end, counts in rows)
            self.check_stretches(net, plan, truth, order, wanted)

    def test_big_nets(self):
        for net, plan, truth, order in runs_thrown(6, 120, 12):
            self.check_whole(net, plan, truth, order)

    def test_nets_that_end_alike(self):
        for one, other in ALIKE:
            for plan, truth in all_runs(3, 0, 1, 4)[::9] + [(((1, 2), (1, 2), (7, 3)), ((5, 2), (5, 2), (1, 3)))]:
                for order in ((0, 1, 2), (2, 1, 0), (1, 2, 0)):
                    self.check_stretches(one, plan, truth, order, stretches(other, plan, truth, order))

    def test_what_was_told_is_handed_in_again(self):
        net = ("last", A, B, C)
        plan, truth = whole(6, 5, 0), whole(6, 9, 12)
        for begin, end, counts in stretches(net, plan, truth, (0, 1, 2)):
            there, then = lengths_at(plan, truth, begin), lengths_at(plan, truth, end)
            self.check_stretches(net, there, then, (0, 1, 2), (((0, 1), (1, 1), counts),))
            self.check_turns(net, there, then, ())


if __name__ == "__main__":
    unittest.main()
