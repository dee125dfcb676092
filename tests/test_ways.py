"""Point 12: a net as the greatest of some leasts of sums, and as the least of some greatests."""

import unittest

from lateshares import ways
from lateshares.errors import TooMany
from lateshares.ways import MOST_WAYS, greatests_of, leasts_of
from tests.asked import Asked, beside
from tests.looker import GREATESTS, LEASTS, lots_told, rising, worth
from tests.made import A, B, C, NETS, R0, R1, R2, Dice, all_lengths, lengths_made, net_made
from tests.trial import hour_told, real

D = ("work", 3)
BIG = 10 ** 12 - 1


def rests(*numbers):
    return [("rest", n) for n in numbers]


def own(counts, rest=0):
    """A lot of one sum."""
    return ((tuple(counts), rest),)


class Ways(Asked):
    def check(self, net, many, leasts, greatests):
        self.assertEqual(self.ask(leasts_of, net, many), leasts)
        self.assertEqual(self.ask(greatests_of, net, many), greatests)

    def check_either(self, question, net, many, lots):
        """That just these lots are told, or just TooMany where there are too many of them (None)."""
        if lots is None:
            self.assertEqual(vars(self.refused(TooMany, question, net, many)), {})
        else:
            self.assertEqual(self.ask(question, net, many), rising(lots), net)

    def check_like_sets(self, net, many):
        self.check_either(leasts_of, net, many, lots_told(net, many, LEASTS))
        self.check_either(greatests_of, net, many, lots_told(net, many, GREATESTS))


class Interface(Ways):
    def test_names_and_arguments(self):
        self.check_interface(ways, {"leasts_of": "(net, many)", "greatests_of": "(net, many)"})
        self.assertIs(type(MOST_WAYS), int)
        self.assertEqual(MOST_WAYS, 24)

    def test_by_names(self):
        self.assertEqual(leasts_of(many=2, net=("last", A, B)), (own((0, 1)), own((1, 0))))
        self.assertEqual(greatests_of(many=2, net=("first", A, B)), (own((0, 1)), own((1, 0))))


class Kinds(Ways):
    def test_works_and_rests(self):
        for many in range(1, 7):
            for work in range(many):
                lot = own([int(one == work) for one in range(many)])
                self.check(("work", work), many, (lot,), (lot,))
        for many in range(7):
            for n in (0, 1, 7, BIG):
                self.check(("rest", n), many, (own((0,) * many, n),), (own((0,) * many, n),))

    def test_last_and_first(self):
        apart, one_lot = (own((0, 1)), own((1, 0))), ((((0, 1), 0), ((1, 0), 0)),)
        for nets in ((A, B), (B, A), (A, B, A), (B, B, A, A)):
            self.check(("last", *nets), 2, apart, one_lot)
            self.check(("first", *nets), 2, one_lot, apart)
        self.check(("last", A, A), 1, (own((1,)),), (own((1,)),))
        self.check(("first", R2, R2, R2), 0, (own((), 2),), (own((), 2),))
        self.check(("last", R2, R1, R0), 0, (own((), 0), own((), 1), own((), 2)), ((((), 0), ((), 1), ((), 2)),))

    def test_hours(self):
        apart, one_lot = (own((0,), 3), own((1,))), ((((0,), 3), ((1,), 0)),)
        self.check(("not_before", 3, A), 1, apart, one_lot)
        self.check(("given_up", 3, A), 1, one_lot, apart)
        self.check(("not_before", 3, ("rest", 3)), 0, (own((), 3),), (own((), 3),))
        self.check(("given_up", BIG, R0), 0, ((((), 0), ((), BIG)),), (own((), 0), own((), BIG)))

    def test_after(self):
        self.check(("after", A, B), 2, (own((1, 1)),), (own((1, 1)),))
        self.check(("after", A, R2, A, ("rest", 5)), 2, (own((2, 0), 7),), (own((2, 0), 7),))
        self.check(("after", ("last", A, B), R1), 2, (own((0, 1), 1), own((1, 0), 1)), ((((0, 1), 1), ((1, 0), 1)),))
        net = ("after", ("last", A, B), ("last", A, B))
        self.check(net, 2, (own((0, 2)), own((1, 1)), own((2, 0))), ((((0, 2), 0), ((1, 1), 0), ((2, 0), 0)),))
        net = ("after", ("last", A, B), ("first", A, B))
        lots = ((((0, 2), 0), ((1, 1), 0)), (((1, 1), 0), ((2, 0), 0)))
        self.check(net, 2, lots, lots)

    def test_nested(self):
        net = ("last", ("first", A, B), C)
        self.check(net, 3, (own((0, 0, 1)), (((0, 1, 0), 0), ((1, 0, 0), 0))),
                   ((((0, 0, 1), 0), ((0, 1, 0), 0)), (((0, 0, 1), 0), ((1, 0, 0), 0))))
        net = ("first", ("last", A, B), C)
        self.check(net, 3, ((((0, 0, 1), 0), ((0, 1, 0), 0)), (((0, 0, 1), 0), ((1, 0, 0), 0))),
                   (own((0, 0, 1)), (((0, 1, 0), 0), ((1, 0, 0), 0))))
        net = ("first", ("last", A, B), ("last", C, D))
        pairs = [((0, 1), (0, 1)), ((0, 1), (1, 0)), ((1, 0), (0, 1)), ((1, 0), (1, 0))]
        self.check(net, 4, tuple((((0, 0, *two), 0), ((*one, 0, 0), 0)) for two, one in sorted(pairs)),
                   ((((0, 0, 0, 1), 0), ((0, 0, 1, 0), 0)), (((0, 1, 0, 0), 0), ((1, 0, 0, 0), 0))))

    def test_none_is_left_out(self):
        # B is never followed, yet its sums stand there.
        net = ("last", ("after", A, B), A)
        self.check(net, 2, (own((1, 0)), own((1, 1))), ((((1, 0), 0), ((1, 1), 0)),))
        net = ("first", A, ("last", A, B))
        self.check(net, 2, ((((0, 1), 0), ((1, 0), 0)), own((1, 0))), ((((0, 1), 0), ((1, 0), 0)), own((1, 0))))
        net = ("not_before", 9, ("given_up", 2, A))
        self.check(net, 1, ((((0,), 2), ((1,), 0)), own((0,), 9)), ((((0,), 2), ((0,), 9)), (((0,), 9), ((1,), 0))))

    def test_works_that_stand_nowhere(self):
        self.check(("last", A, C), 5, (own((0, 0, 1, 0, 0)), own((1, 0, 0, 0, 0))),
                   ((((0, 0, 1, 0, 0), 0), ((1, 0, 0, 0, 0), 0)),))

    def test_lots_rise_and_their_sums(self):
        net = ("last", ("rest", 10), B, ("rest", 9), A)
        self.check(net, 2, (own((0, 0), 9), own((0, 0), 10), own((0, 1)), own((1, 0))),
                   ((((0, 0), 9), ((0, 0), 10), ((0, 1), 0), ((1, 0), 0)),))
        # A lot that is the beginning of another one stands ahead.
        net = ("first", R2, ("last", R1, R2, R0))
        self.check(net, 0, ((((), 0), ((), 2)), (((), 1), ((), 2)), (((), 2),)), ((((), 0), ((), 1), ((), 2)), (((), 2),)))


class Sets(Ways):
    def test_nets(self):
        for net in NETS:
            for many in (3, 4, 6):
                self.check_like_sets(net, many)

    def test_thrown(self):
        dice = Dice(31)
        told = [0, 0]
        for k in range(800):
            many = 1 + k % 6
            net = net_made(dice, many, k % 13, 30)
            self.check_like_sets(net, many)
            told[lots_told(net, many, LEASTS) is None] += 1
        self.assertGreater(min(told), 20)

    def test_the_greatest_of_leasts_and_the_least_of_greatests(self):
        dice = Dice(32)
        for k in range(150):
            net = net_made(dice, 3, k % 7, 5)
            if lots_told(net, 3, LEASTS) is None or lots_told(net, 3, GREATESTS) is None:
                continue
            for lengths in [*all_lengths(3, 0, 2, 5)[::5], lengths_made(dice, 3, 9, 4)]:
                lengths = real(lengths)
                hour = hour_told(net, lengths)
                self.assertEqual(max(min(worth(one, lengths) for one in lot) for lot in leasts_of(net, 3)), hour)
                self.assertEqual(min(max(worth(one, lengths) for one in lot) for lot in greatests_of(net, 3)), hour)


class Edges(Ways):
    """24 are told, 25 are refused."""

    def check_many(self, question, net, lots, sums):
        told = self.ask(question, net, 3)
        self.assertEqual(len(told), lots, net)
        self.assertEqual(max(len(lot) for lot in told), sums, net)

    def test_lots_and_sums(self):
        for count in (23, 24):
            self.check_many(leasts_of, beside("last", rests(*range(count))), count, 1)
            self.check_many(greatests_of, beside("last", rests(*range(count))), 1, count)
            self.check_many(leasts_of, beside("first", rests(*range(count))), 1, count)
            self.check_many(greatests_of, beside("first", rests(*range(count))), count, 1)
        for count in (25, 26, 30):
            for word in ("last", "first"):
                for question in (leasts_of, greatests_of):
                    self.refused(TooMany, question, beside(word, rests(*range(count))), 3)

    def test_like_ones_are_counted_once(self):
        for word, lots, sums in (("last", 24, 1), ("first", 1, 24)):
            for more in ([0], [5, 23], [7, 7, 7, 8, 0]):
                self.check_many(leasts_of, beside(word, rests(*range(24), *more)), lots, sums)
                self.check_many(greatests_of, beside(word, rests(*range(24), *more)), sums, lots)

    def test_after(self):
        for word, question in (("last", leasts_of), ("first", greatests_of)):
            # 12 and 13 in a row make 24 in a row, 13 and 13 make 25.
            row = beside(word, rests(*range(13)))
            self.check_many(question, ("after", beside(word, rests(*range(12))), row), 24, 1)
            self.refused(TooMany, question, ("after", row, row), 3)
            # 4 and 6 make 24, 5 and 5 make 25.
            wide = beside(word, rests(0, 10, 20, 30, 40, 50))
            self.check_many(question, ("after", beside(word, rests(0, 1, 2, 3)), wide), 24, 1)
            net = ("after", beside(word, rests(0, 1, 2, 3, 4)), beside(word, rests(0, 10, 20, 30, 40)))
            self.refused(TooMany, question, net, 3)
        for word, question in (("first", leasts_of), ("last", greatests_of)):
            row = beside(word, rests(*range(13)))
            self.check_many(question, ("after", beside(word, rests(*range(12))), row), 1, 24)
            self.refused(TooMany, question, ("after", row, row), 3)
            wide = beside(word, rests(0, 10, 20, 30, 40, 50))
            self.check_many(question, ("after", beside(word, rests(0, 1, 2, 3)), wide), 1, 24)
            net = ("after", beside(word, rests(0, 1, 2, 3, 4)), beside(word, rests(0, 10, 20, 30, 40)))
            self.refused(TooMany, question, net, 3)

    def test_choices(self):
        # 4 times 6 choices of a lot, 5 times 5.
        for word, other, question in (("first", "last", leasts_of), ("last", "first", greatests_of)):
            few, more = beside(other, rests(0, 1, 2, 3)), beside(other, [A, B, C, *rests(50, 60, 70)])
            self.check_many(question, (word, few, more), 24, 2)
            few, more = beside(other, rests(0, 1, 2, 3, 4)), beside(other, [A, B, C, *rests(50, 60)])
            self.refused(TooMany, question, (word, few, more), 3)

    def test_hours(self):
        net = beside("last", rests(*range(1, 24)))
        self.check_many(leasts_of, ("not_before", 0, net), 24, 1)
        self.check_many(leasts_of, ("not_before", 1, net), 23, 1)
        self.check_many(leasts_of, ("given_up", 0, net), 23, 2)
        self.check_many(greatests_of, ("not_before", 0, net), 1, 24)
        self.check_many(greatests_of, ("given_up", 0, net), 2, 23)
        net = beside("last", rests(*range(1, 25)))
        self.check_many(leasts_of, ("not_before", 1, net), 24, 1)
        self.refused(TooMany, leasts_of, ("not_before", 0, net), 3)
        self.refused(TooMany, greatests_of, ("not_before", 0, net), 3)
        net = beside("first", rests(*range(1, 25)))
        self.check_many(leasts_of, ("given_up", 1, net), 1, 24)
        self.refused(TooMany, leasts_of, ("given_up", 0, net), 3)
        self.refused(TooMany, greatests_of, ("given_up", 0, net), 3)

    def test_one_question_is_refused_where_the_other_one_is_not(self):
        # 27 lots of three sums, but three of three.
        net = ("first", *[("last", *rests(3 * k, 3 * k + 1, 3 * k + 2)) for k in range(3)])
        self.refused(TooMany, leasts_of, net, 3)
        self.check_many(greatests_of, net, 3, 3)
        net = ("last", *[("first", *rests(3 * k, 3 * k + 1, 3 * k + 2)) for k in range(3)])
        self.check_many(leasts_of, net, 3, 3)
        self.refused(TooMany, greatests_of, net, 3)

    def test_a_net_in_it(self):
        for word, other, question in (("first", "last", leasts_of), ("last", "first", greatests_of)):
            threes = [(other, *rests(3 * k, 3 * k + 1, 3 * k + 2)) for k in range(3)]
            everything = beside(word, rests(*range(9)))
            # One lot of nine sums in all: three of the parts have 27 choices, but are no net of their own.
            for parts in ([*threes, everything], [everything, *threes], [threes[0], everything, *threes[1:]]):
                self.check_many(question, (word, *parts), 1, 9)
            # Here they are one.
            for parts in ([(word, *threes), everything], [everything, (word, *threes)]):
                self.refused(TooMany, question, (word, *parts), 3)
                self.refused(TooMany, question, ("after", A, (word, *parts)), 3)

    def test_a_net_in_an_after(self):
        for word, other, question in (("first", "last", leasts_of), ("last", "first", greatests_of)):
            # Seven lots {0, i, 8}; two of them make 28 lots, with seven in a row 0 to 22.
            some = (word, *rests(0, 8), beside(other, rests(*range(1, 8))))
            row = beside(word, rests(*range(7)))
            for parts in ([some, some, row], [some, row, some], [row, some, some]):
                self.check_many(question, ("after", *parts), 1, 23)
            self.refused(TooMany, question, ("after", some, some), 3)
            self.refused(TooMany, question, ("after", ("after", some, some), row), 3)
            self.refused(TooMany, question, ("last", A, ("given_up", 9, ("after", some, some))), 3)
            self.check_many(question, ("after", some, ("after", some, row)), 1, 23)

    def test_what_is_refused_needs_no_end(self):
        # Put together to the end there would be 4 ** 8 lots, or as many sums in one lot.
        parts = [("last", A, B, C, R1), ("last", A, B, C, R2), ("last", A, R1, C, R2), ("last", R1, B, C, R2)]
        net = ("after", ("after", *parts), ("after", *parts))
        self.refused(TooMany, leasts_of, net, 3)
        self.refused(TooMany, greatests_of, net, 3)

    def test_more_works_than_a_net_has(self):
        net = ("last", *[("work", k) for k in (0, 6, 11)])
        self.assertEqual(self.ask(leasts_of, net, 12), rising(lots_told(net, 12, LEASTS)))
        self.assertEqual(self.ask(greatests_of, net, 12), rising(lots_told(net, 12, GREATESTS)))


if __name__ == "__main__":
    unittest.main()
