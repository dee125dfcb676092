"""Point 11: papers of shares, and the looker."""

import unittest
from fractions import Fraction

from lateshares import papers
from lateshares.fractions import part
from lateshares.papers import paper, shows_shares
from lateshares.sharing import shares
from tests.anything import deep, things, told_of
from tests.asked import Asked, runs_thrown, whole
from tests.looker import (choices_let, is_fraction_told, joins_told, paper_let, rows_let, rows_put_together,
                          shares_put_together)
from tests.made import A, B, C, NETS, R1, R2, Dice, all_runs, lengths_made, net_made, order_made
from tests.trial import parts_told

O, END, HALF = (0, 1), (1, 1), (1, 2)
BIG = 10 ** 12 - 1
# Each join but after, nested; two works are late alike, one is early.
RUN = (("last", A, B, ("given_up", 3, C), ("not_before", 2, ("first", A, B))), whole(1, 1, 6), whole(5, 5, 2), (1, 0, 2))


class Papers(Asked):
    def check_let(self, run, thing, wanted):
        """Whether the looker lets it; and the other looker with him."""
        self.assertIs(told_of(self, lambda one: shows_shares(*run, one), thing), wanted, (run, thing))
        self.assertIs(paper_let(*run, thing), wanted, (run, thing))

    def check_told(self, *run):
        """The told paper: its shares are those that shares tells, and both lookers let it."""
        told = self.ask(paper, *run)
        self.assertEqual(told[0], "shares")
        self.assertEqual(told[1], shares(*run), run)
        self.check_let(run, told, True)
        return told


class Interface(Papers):
    def test_names_and_arguments(self):
        self.check_interface(papers, {
            "paper": "(net, plan, truth, order)", "shows_shares": "(net, plan, truth, order, thing)",
        })

    def test_by_names(self):
        net, plan, truth, order = RUN
        told = paper(order=order, truth=truth, plan=plan, net=net)
        self.assertEqual(told, paper(*RUN))
        self.assertIs(shows_shares(thing=told, order=order, truth=truth, plan=plan, net=net), True)
        self.assertIs(shows_shares(thing=0, order=order, truth=truth, plan=plan, net=net), False)


class Told(Papers):
    def test_nets_without_choices(self):
        for net in (A, R2, ("after", A, B), ("after", A, ("after", R1, C))):
            told = self.check_told(net, whole(1, 2, 3), whole(2, 2, 2), (0, 1, 2))
            self.assertEqual(told[2], ((O, END, ()),))

    def test_one_choice_all_along(self):
        run = ("last", A, B), whole(4, 1), whole(6, 1), (0, 1)
        self.assertEqual(self.check_told(*run)[2][0][2], (0,))
        run = ("first", A, B), whole(4, 1), whole(6, 1), (0, 1)
        self.assertEqual(self.check_told(*run)[2][0][2], (1,))
        run = ("not_before", 3, A), whole(4), whole(6), (0,)
        self.assertEqual(self.check_told(*run)[2][0][2], (1,))
        run = ("given_up", 3, A), whole(4), whole(6), (0,)
        self.assertEqual(self.check_told(*run)[2][0][2], (0,))

    def test_all_of_few_runs(self):
        for k, net in enumerate(NETS):
            for plan, truth in all_runs(3, 0, 1, 3)[k % 7::7]:
                self.check_told(net, plan, truth, ((0, 1, 2), (2, 0, 1))[k % 2])

    def test_ties_all_along(self):
        for net in NETS:
            for order in ((0, 1, 2), (2, 1, 0), (1, 2, 0)):
                self.check_told(net, whole(1, 1, 1), whole(3, 3, 3), order)
                self.check_told(net, whole(3, 3, 1), whole(1, 1, 3), order)

    def test_as_planned_and_early(self):
        for net in NETS:
            self.check_told(net, whole(1, 2, 2), whole(1, 2, 2), (2, 0, 1))
            self.check_told(net, whole(5, 4, 3), whole(1, 4, 0), (2, 0, 1))

    def test_thrown(self):
        for run in [*runs_thrown(21, 250, 6, 12), *runs_thrown(22, 150, 6, 12, 3)]:
            self.check_told(*run)

    def test_no_works(self):
        told = self.check_told(("last", R1, ("first", R1, R2)), (), (), ())
        self.assertEqual(told[:2], ("shares", ()))

    def test_big_numbers(self):
        lengths = ((BIG, BIG - 1), (BIG - 2, BIG), (BIG, 1)), ((1, BIG), (BIG, 1), (1, BIG - 3))
        for net in NETS:
            self.check_told(net, *lengths, (0, 1, 2))


class Rows(Papers):
    """Papers put together row by row by another hand."""

    def check_rows(self, run, take, more=()):
        self.check_let(run, ("shares", shares(*run), rows_put_together(*run, take, more)), True)

    def test_another_hand(self):
        dice = Dice(3)
        sevenths = [Fraction(k, 7) for k in range(1, 7)]
        for k, run in enumerate([*runs_thrown(23, 150, 4, 6), *runs_thrown(24, 150, 4, 6, 3)]):
            self.check_rows(run, min, sevenths if k % 2 else ())
            self.check_rows(run, max, sevenths[:k % 4])
            self.check_rows(run, dice.one_of, sevenths[k % 5:])

    def test_parts_alike_in_all(self):
        for order in ((0, 1), (1, 0)):
            run = ("last", A, A, ("after", A, ("rest", 0)), B), whole(1, 1), whole(3, 3), order
            for k in range(4):
                wanted = k < 3 if order[0] == 0 else k == 3
                self.check_let(run, ("shares", shares(*run), ((O, END, (k,)),)), wanted)
            run = ("first", B, A, ("last", A, A)), whole(1, 1), whole(3, 3), order
            for k in range(3):
                for inside in range(2):
                    wanted = k > 0 if order[0] == 1 else k == 0
                    self.check_let(run, ("shares", shares(*run), ((O, END, (k, inside)),)), wanted)

    def test_more_rows_than_needed(self):
        run = ("last", A, B), whole(4, 2), whole(6, 8), (0, 1)
        told = shares(*run)
        rows = ((O, HALF, (0,)), (HALF, END, (1,)))
        self.check_let(run, ("shares", told, rows), True)
        moments = [O, (1, 10 ** 15), (1, 3), HALF, (10 ** 20, 10 ** 20 + 1), END]
        cut = [(begin, end, (int(k > 2),)) for k, (begin, end) in enumerate(zip(moments, moments[1:]))]
        self.check_let(run, ("shares", told, tuple(cut)), True)
        # The part that is followed changes too late, too early, never, at once.
        for rows in (((O, (3, 5), (0,)), ((3, 5), END, (1,))), ((O, (2, 5), (0,)), ((2, 5), END, (1,))),
                     ((O, END, (0,)),), ((O, END, (1,)),), ((O, HALF, (1,)), (HALF, END, (0,)))):
            self.check_let(run, ("shares", told, rows), False)
            # Nor with the shares that these rows come to.
            self.check_let(run, ("shares", shares_put_together(*run[:3], rows), rows), False)
            first = ("first", *run[0][1:]), *run[1:]
            wanted = rows == ((O, HALF, (1,)), (HALF, END, (0,)))
            self.check_let(first, ("shares", shares_put_together(*first[:3], rows), rows), wanted)

    def test_alike_at_one_end_alone(self):
        # At 0 both are alike, B is longer then: A can't be followed, though the order has it ahead.
        run = ("last", A, B), whole(2, 2), whole(3, 4), (0, 1)
        self.check_let(run, ("shares", shares(*run), ((O, END, (1,)),)), True)
        self.check_let(run, ("shares", shares(*run), ((O, END, (0,)),)), False)
        run = ("first", A, B), whole(2, 2), whole(3, 4), (0, 1)
        self.check_let(run, ("shares", shares(*run), ((O, END, (0,)),)), True)
        self.check_let(run, ("shares", shares(*run), ((O, END, (1,)),)), False)
        # Alike at 1.
        run = ("last", A, B), whole(1, 2), whole(4, 4), (0, 1)
        self.check_let(run, ("shares", shares(*run), ((O, END, (1,)),)), True)
        self.check_let(run, ("shares", shares(*run), ((O, END, (0,)),)), False)

    def test_the_order_is_looked_at(self):
        for word, first in (("last", 0), ("first", 1)):
            for order in ((0, 1), (1, 0)):
                run = (word, A, B), whole(1, 1), whole(3, 3), order
                for k in range(2):
                    bears = ("shares", whole(*[2 * int(work == k) for work in range(2)]), ((O, END, (k,)),))
                    self.check_let(run, bears, k == order[first])

    def test_joins_that_nobody_follows(self):
        # B is the first of the second part, but nobody follows that one.
        run = ("last", A, ("first", C, B)), whole(5, 1, 2), whole(6, 1, 2), (0, 1, 2)
        self.check_let(run, ("shares", shares(*run), ((O, END, (0, 1)),)), True)
        self.check_let(run, ("shares", shares(*run), ((O, END, (0, 0)),)), False)
        for choices in ((0,), (), (0, 1, 0), (1, 0), (0, 2), (2, 1), (0, -1)):
            self.check_let(run, ("shares", shares(*run), ((O, END, choices),)), False)

    def test_the_order_of_the_choices(self):
        # A join ahead of those in it, parts in order, none of after.
        net = ("after", ("last", ("first", A, B), R1, ("not_before", 4, C)), ("given_up", 9, A))
        run = net, whole(6, 7, 2), whole(7, 8, 2), (0, 1, 2)
        self.assertEqual(self.check_told(*run)[2], ((O, END, (0, 0, 0, 1)),))
        for choices in ((0, 0, 1, 1), (0, 1, 0, 1), (1, 0, 0, 1), (0, 0, 0, 0), (1, 0, 0, 0)):
            self.check_let(run, ("shares", shares(*run), ((O, END, choices),)), False)

    def test_an_hour_is_the_part_ahead(self):
        for word, k in (("not_before", 0), ("given_up", 1)):
            run = (word, 5, A), whole(1), whole(3), (0,)
            for choice in range(2):
                self.check_let(run, ("shares", shares(*run), ((O, END, (choice,)),)), choice == k)
            # Alike all along: the work is more by a little.
            run = (word, 3, A), whole(3), whole(3), (0,)
            for choice in range(2):
                self.check_let(run, ("shares", whole(0), ((O, END, (choice,)),)), choice == 1 - k)

    def test_sums_are_put_together_by_the_choices(self):
        # By the choice of the hour the part would be 1, less than B.
        run = ("last", ("not_before", 1, A), B), whole(4, 2), whole(5, 2), (0, 1)
        self.check_let(run, ("shares", shares(*run), ((O, END, (0, 1)),)), True)
        self.check_let(run, ("shares", shares(*run), ((O, END, (1, 0)),)), False)
        self.check_let(run, ("shares", whole(0, 0), ((O, END, (1, 0)),)), False)


class Otherwise(Papers):
    """Papers of which one thing is otherwise: let just where they still are papers."""

    def spoilt(self, told, net):
        word, some, rows = told
        joins = joins_told(net)
        for k, one in enumerate(some):
            for change in ((1, 1), (-1, 1), (1, 7)):
                other = part(one[0] * change[1] + change[0] * one[1], one[1] * change[1])
                yield (word, (*some[:k], other, *some[k + 1:]), rows)
        yield (word, some[::-1], rows)
        yield (word, some[1:], rows)
        yield (word, (*some, O), rows)
        for k, (begin, end, choices) in enumerate(rows):
            for at, join in enumerate(joins):
                for choice in range(-1, len(parts_told(join)) + 1):
                    row = (begin, end, (*choices[:at], choice, *choices[at + 1:]))
                    yield (word, some, (*rows[:k], row, *rows[k + 1:]))
            yield (word, some, (*rows[:k], *rows[k + 1:]))
            yield (word, some, (*rows[:k], rows[k], *rows[k:]))
            yield (word, some, (*rows[:k], (begin, end, choices[::-1]), *rows[k + 1:]))
            middle = part(begin[0] * end[1] + end[0] * begin[1], 2 * begin[1] * end[1])
            yield (word, some, (*rows[:k], (begin, middle, choices), *rows[k + 1:]))
            yield (word, some, (*rows[:k], (middle, end, choices), *rows[k + 1:]))
            yield (word, some, (*rows[:k], (begin, middle, choices), (middle, end, choices), *rows[k + 1:]))
            if k:
                # The moment between two rows comes earlier, and the rows meet there.
                early = part(rows[k - 1][0][0] * begin[1] + begin[0] * rows[k - 1][0][1],
                             2 * begin[1] * rows[k - 1][0][1])
                ahead = (rows[k - 1][0], early, rows[k - 1][2])
                yield (word, some, (*rows[:k - 1], ahead, (early, end, choices), *rows[k + 1:]))
        yield (word, some, rows[::-1])
        yield (word, some, ())

    def test_one_thing_otherwise(self):
        let = [0, 0]
        for run in [RUN, *runs_thrown(25, 40, 4, 5, 4), *runs_thrown(26, 30, 4, 5, 2)]:
            for thing in self.spoilt(paper(*run), run[0]):
                let[self.check_spoilt(run, thing)] += 1
                if rows_let(thing[2]) and all(choices_let(choices, run[0]) for _, _, choices in thing[2]):
                    # With the shares that these rows come to.
                    self.check_spoilt(run, ("shares", shares_put_together(*run[:3], thing[2]), thing[2]))
        self.assertGreater(min(let), 100)

    def check_spoilt(self, run, thing):
        wanted = paper_let(*run, thing)
        self.assertIs(shows_shares(*run, thing), wanted, (run, thing))
        if wanted:
            self.assertEqual(thing[1], shares(*run))
        return wanted

    def test_no_paper_of_other_shares(self):
        net, plan, truth, order = RUN
        right = shares(*RUN)
        _, _, rows = paper(*RUN)
        for some in (whole(0, 0, 0), right[::-1], right[:2], (*right, O), (), whole(4, 4, 4), (right[1], right[0], right[2])):
            if some != right:
                self.check_let(RUN, ("shares", some, rows), False)
        # By the other order the shares are others: neither paper is let for the other one.
        other = (net, plan, truth, (0, 1, 2))
        self.assertNotEqual(shares(*other), right)
        self.check_let(RUN, paper(*other), False)
        self.check_let(other, paper(*RUN), False)
        self.check_let(RUN, ("shares", right, paper(*other)[2]), False)

    def test_papers_of_other_runs(self):
        run = ("last", A, B), whole(1, 2), whole(4, 3), (0, 1)
        for other in ((("last", B, A), *run[1:]), (run[0], whole(1, 3), *run[2:]), (run[0], run[1], whole(4, 6), run[3])):
            self.check_let(run, paper(*run), True)
            self.check_let(other, paper(*run), False)


class Anything(Papers):
    def test_things(self):
        for thing in [*things(), deep(tuple, paper(*RUN), 20), [paper(*RUN)], (paper(*RUN),), list(paper(*RUN))]:
            self.check_let(RUN, thing, False)
            self.check_let((A, whole(1), whole(2), (0,)), thing, False)
            self.check_let((R1, (), (), ()), thing, False)

    def test_a_thing_in_each_place(self):
        run = ("last", A, B), whole(4, 2), whole(6, 8), (0, 1)
        word, some, rows = paper(*run)
        for thing in things():
            if thing != (1,) or type(thing[0]) is not int:
                self.check_let(run, (word, some, (rows[0], (*rows[1][:2], thing))), False)
            self.check_let(run, (thing, some, rows), False)
            self.check_let(run, (word, thing, rows), False)
            self.check_let(run, (word, some, thing), False)
            self.check_let(run, (word, (thing, some[1]), rows), False)
            self.check_let(run, (word, (*some, thing), rows), False)
            self.check_let(run, (word, some, (thing,)), False)
            self.check_let(run, (word, some, (rows[0], thing)), False)
            self.check_let(run, (word, some, (*rows, thing)), False)
            self.check_let(run, (word, some, (rows[0], (thing, *rows[1][1:]))), False)
            self.check_let(run, (word, some, (rows[0], (rows[1][0], thing, rows[1][2]))), False)
            self.check_let(run, (word, some, rows, thing), False)
            self.check_let(run, (word, some, ((*rows[0], thing), rows[1])), False)
            self.check_let(run, (word, some, (rows[0], (*rows[1][:2], (1, thing)))), False)
            if thing != 1 or type(thing) is not int:
                self.check_let(run, (word, some, (rows[0], (*rows[1][:2], (thing,)))), False)

    def test_lists_and_truths_in_each_place(self):
        run = ("last", A, B), whole(0, 1), whole(1, 0), (0, 1)
        some = shares(*run)
        self.check_let(run, ("shares", some, ((O, HALF, (1,)), (HALF, END, (0,)))), True)
        wrong = [
            ["shares", some, ((O, HALF, (1,)), (HALF, END, (0,)))],
            ("Shares", some, ((O, HALF, (1,)), (HALF, END, (0,)))),
            ("shares", list(some), ((O, HALF, (1,)), (HALF, END, (0,)))),
            ("shares", tuple(list(one) for one in some), ((O, HALF, (1,)), (HALF, END, (0,)))),
            ("shares", some, [(O, HALF, (1,)), (HALF, END, (0,))]),
            ("shares", some, ([O, HALF, (1,)], (HALF, END, (0,)))),
            ("shares", some, ((list(O), HALF, (1,)), (HALF, END, (0,)))),
            ("shares", some, ((O, list(HALF), (1,)), (HALF, END, (0,)))),
            ("shares", some, ((O, HALF, [1]), (HALF, END, (0,)))),
            ("shares", some, ((O, HALF, (True,)), (HALF, END, (0,)))),
            ("shares", some, ((O, HALF, (1,)), (HALF, END, (False,)))),
            ("shares", some, ((O, HALF, ("1",)), (HALF, END, (0,)))),
            ("shares", some, (((False, 1), HALF, (1,)), (HALF, END, (0,)))),
            ("shares", some, (((0, True), HALF, (1,)), (HALF, END, (0,)))),
            ("shares", some, ((O, (True, 2), (1,)), (HALF, END, (0,)))),
            ("shares", some, ((O, HALF, (1,)), (HALF, (True, True), (0,)))),
            ("shares", some, ((O, HALF, (1,)), (HALF, 1, (0,)))),
            ("shares", some, ((0, HALF, (1,)), (HALF, END, (0,)))),
            ("shares", ((some[0][0], True), *some[1:]), ((O, HALF, (1,)), (HALF, END, (0,)))),
            ("shares", some, ((O, HALF, (1,)), (HALF, END, (0,))), ()),
            ("shares", some),
            (some, ((O, HALF, (1,)), (HALF, END, (0,)))),
        ]
        for thing in wrong:
            self.check_let(run, thing, False)

    def test_moments(self):
        run = ("last", A, B), whole(4, 2), whole(6, 8), (0, 1)
        some = shares(*run)
        rows = [
            # With a common part, upside down, below 0.
            (((0, 2), HALF, (0,)), (HALF, END, (1,))), ((O, (2, 4), (0,)), ((2, 4), END, (1,))),
            ((O, HALF, (0,)), (HALF, (2, 2), (1,))), ((O, (-1, -2), (0,)), ((-1, -2), END, (1,))),
            # Ends that don't meet.
            ((O, (1, 3), (0,)), (HALF, END, (1,))), ((O, HALF, (0,)), ((1, 3), END, (1,))),
            ((O, HALF, (0,)), ((2, 3), END, (1,))), ((HALF, END, (1,)), (O, HALF, (0,))),
            # From not less than to.
            ((O, HALF, (0,)), (HALF, HALF, (0,)), (HALF, END, (1,))), ((O, O, (0,)), (O, HALF, (0,)), (HALF, END, (1,))),
            ((O, HALF, (0,)), (HALF, (1, 3), (0,)), ((1, 3), HALF, (0,)), (HALF, END, (1,))),
            ((O, HALF, (0,)), (HALF, END, (1,)), (END, END, (1,))),
            # The first not from 0, the last not to 1.
            (((1, 3), HALF, (0,)), (HALF, END, (1,))), (((-1, 2), HALF, (0,)), (HALF, END, (1,))),
            ((O, HALF, (0,)), (HALF, (2, 3), (1,))), ((O, HALF, (0,)), (HALF, (3, 2), (1,))), ((O, HALF, (0,)),),
            ((HALF, END, (1,)),), (), ((O, HALF, (0,)), (HALF, END, (1,)), (END, (2, 1), (1,))),
            ((O, HALF, (0,)), (HALF, END, (1,)), (END, (2, 1), (1,)), ((2, 1), END, (1,))),
        ]
        self.check_let(run, ("shares", some, ((O, HALF, (0,)), (HALF, END, (1,)))), True)
        for some_rows in rows:
            self.check_let(run, ("shares", some, some_rows), False)

    def test_choices_of_a_run_as_planned(self):
        # All rows bear nothing, but their choices are looked at.
        run = ("last", A, B, ("first", B, C)), whole(2, 2, 1), whole(2, 2, 1), (1, 0, 2)
        for first in range(-1, 5):
            for second in range(-1, 4):
                thing = ("shares", whole(0, 0, 0), ((O, END, (first, second)),))
                self.check_let(run, thing, (first, second) == (1, 1))

    def test_what_is_told_is_fractions(self):
        for run in runs_thrown(27, 60, 5, 9):
            _, some, rows = paper(*run)
            self.assertTrue(all(is_fraction_told(one) for one in some))
            self.assertTrue(all(is_fraction_told(moment) for row in rows for moment in row[:2]))


class Many(Papers):
    def test_six_works_twelve_joins(self):
        dice = Dice(7)
        for k in range(40):
            net = net_made(dice, 6, 12, 9)
            plan, truth = lengths_made(dice, 6, 9, 1 + k % 4), lengths_made(dice, 6, 9, 1 + k % 3)
            self.check_told(net, plan, truth, order_made(dice, 6))


if __name__ == "__main__":
    unittest.main()
