"""Point 13: whether a net is never later than another one, what shows it, and nets that end alike."""

import unittest
from fractions import Fraction

from lateshares import alike
from lateshares.alike import are_alike, never_later, shows_never
from lateshares.errors import TooMany
from lateshares.ways import greatests_of, leasts_of
from tests.anything import deep, things, told_of
from tests.asked import Asked, beside, whole
from tests.looker import GREATESTS, LEASTS, lots_told, never_let
from tests.made import A, ALIKE, B, C, NETS, R0, R1, R2, Dice, all_lengths, net_made
from tests.trial import hour_told, real

O, END, HALF = (0, 1), (1, 1), (1, 2)
BIG = 10 ** 12 - 1

# The one is never later than the other one.
NEVER = [
    (A, A), (R1, R1), (R1, R2), (R0, A), (R0, ("first", A, B)), (A, ("last", A, B)), (("first", A, B), A),
    (("first", A, B), ("last", A, B)), (A, ("after", A, B)), (("last", A, B), ("after", A, B)),
    (("given_up", 3, A), A), (A, ("not_before", 3, A)), (("given_up", 3, A), ("rest", 3)),
    (("rest", 3), ("not_before", 3, A)), (("given_up", 3, A), ("not_before", 2, A)), (("given_up", 2, A), R2),
    (("first", ("last", A, B), C), ("last", ("first", A, C), B)),
    (("after", ("first", A, B), ("first", A, B)), ("after", A, B)),
    (("after", A, B), ("after", ("last", A, B), ("last", A, B))),
    (("first", ("after", A, A), ("after", B, B)), ("after", A, B)),
    (("after", A, B), ("last", ("after", A, A), ("after", B, B))),
    (("first", ("after", A, A, A), ("after", B, B, B)), ("last", ("after", A, A, B), ("after", A, B, B))),
    (("after", A, B, C), ("last", ("after", A, A, A), ("after", B, B, B), ("after", C, C, C))),
    (("first", ("after", A, R2), ("after", B, R0)), ("last", ("after", A, R1), ("after", B, R1))),
    (("after", ("given_up", 1, A), ("given_up", 1, B)), ("given_up", 2, ("after", A, B))),
    (("given_up", 2, ("after", A, B)), ("after", ("given_up", 2, A), ("given_up", 2, B))),
    (("last", ("first", A, B), ("first", B, C), ("first", C, A)), ("last", A, B)),
]
# The one is later than the other one for some lengths.
LATER = [
    (A, B), (R2, R1), (R1, A), (A, R1), (A, ("rest", BIG)), (("last", A, B), A), (A, ("first", A, B)),
    (("last", A, B), ("first", A, B)), (("after", A, B), ("last", A, B)), (("after", A, A), A),
    (("not_before", 1, A), A), (A, ("given_up", 1, A)), (("after", A, R1), ("last", A, R1)),
    (("last", ("first", A, C), B), ("first", ("last", A, B), C)),
    (("after", A, B), ("first", ("after", A, A), ("after", B, B))),
    (("last", ("after", A, A), ("after", B, B)), ("after", A, B)),
    (("last", A, B), ("first", ("last", A, C), ("last", B, C))),
    (("after", A, R1), ("after", A, A)), (("after", A, A), ("after", A, R1)),
    (("first", ("after", A, R1), ("after", B, R1)), ("after", ("first", A, B), R0)),
    (("not_before", 3, A), ("not_before", 2, A)), (("given_up", 3, A), ("given_up", 2, A)),
]


class Never(Asked):
    def check_let(self, one, other, many, thing, wanted):
        self.assertIs(told_of(self, lambda this: shows_never(one, other, many, this), thing), wanted, (one, other, thing))
        self.assertIs(never_let(one, other, many, thing), wanted, (one, other, thing))

    def check_told(self, one, other, many, wanted=None):
        """What is told is let by both lookers; the word that is wanted."""
        told = self.ask(never_later, one, other, many)
        if wanted:
            self.assertEqual(told[0], wanted, (one, other))
        self.check_let(one, other, many, told, True)
        return told

    def check_alike(self, one, other, many, wanted):
        self.assertIs(self.ask(are_alike, one, other, many), wanted, (one, other))
        self.assertIs(self.ask(are_alike, other, one, many), wanted, (other, one))


class Interface(Never):
    def test_names_and_arguments(self):
        self.check_interface(alike, {
            "never_later": "(one, other, many)", "shows_never": "(one, other, many, thing)",
            "are_alike": "(one, other, many)",
        })

    def test_by_names(self):
        told = never_later(many=2, other=("last", A, B), one=A)
        self.assertEqual(told, never_later(A, ("last", A, B), 2))
        self.assertEqual(told[0], "never")
        self.assertIs(shows_never(thing=told, many=2, other=("last", A, B), one=A), True)
        self.assertEqual(never_later(many=2, other=A, one=("last", A, B))[0], "later")
        self.assertIs(are_alike(many=2, other=("last", A, B), one=("last", B, A)), True)
        self.assertIs(are_alike(many=2, other=("last", A, B), one=A), False)


class Told(Never):
    def test_never(self):
        for one, other in NEVER:
            told = self.check_told(one, other, 3, "never")
            leasts, greatests = leasts_of(one, 3), greatests_of(other, 3)
            self.assertEqual(len(told[1]), len(leasts))
            for lot, row in zip(leasts, told[1]):
                self.assertEqual(len(row), len(greatests))
                for more, (ones, others) in zip(greatests, row):
                    self.assertEqual((len(ones), len(others)), (len(lot), len(more)))

    def test_later(self):
        for one, other in LATER:
            _, lengths = self.check_told(one, other, 3, "later")
            self.assertEqual(len(lengths), 3)
            self.assertGreater(hour_told(one, real(lengths)), hour_told(other, real(lengths)))

    def test_against_itself(self):
        for net in NETS:
            self.check_told(net, net, 3, "never")
            self.check_alike(net, net, 3, True)

    def test_drawn_otherwise(self):
        for one, other in ALIKE:
            self.check_told(one, other, 3, "never")
            self.check_told(other, one, 3, "never")
            self.check_alike(one, other, 3, True)

    def test_a_first_and_a_last_with_another_one(self):
        for k, net in enumerate(NETS):
            for other in NETS[k % 5::5]:
                self.check_told(("first", net, other), net, 3, "never")
                self.check_told(net, ("last", other, net), 3, "never")
                self.check_told(net, ("after", other, net), 3, "never")

    def test_some_lengths_alone(self):
        # Later between 1/3 and 1 alone: no whole length tells it.
        one, other = ("first", ("after", A, A, A), ("after", R1, A)), ("last", R1, ("after", A, A))
        _, (length,) = self.check_told(one, other, 1, "later")
        self.assertTrue(Fraction(1, 3) < Fraction(*length) < 1)
        # Two works, both between 1/3 and 1.
        one, other = ("first", one, ("after", B, B, B), ("after", R1, B)), ("last", other, ("after", B, B))
        _, lengths = self.check_told(one, other, 2, "later")
        self.assertTrue(all(Fraction(1, 3) < length < 1 for length in real(lengths)))
        # Later by lengths beyond all rests alone, and by 0 alone.
        self.check_told(A, ("rest", BIG), 1, "later")
        self.check_told(("first", A, B), ("after", ("first", ("rest", BIG), B), ("rest", BIG)), 2, "later")
        one, other = ("rest", 2), ("after", R1, A, A, A, A)
        _, (length,) = self.check_told(one, other, 1, "later")
        self.assertLess(Fraction(*length), Fraction(1, 4))
        self.assertEqual(self.check_told(R1, ("last", ("after", R1, A), A), 1), ("never", ((((END,), (O, END)),),)))

    def test_mixtures_that_need_parts(self):
        # No sum of the one lot is below one of the other lot.
        one, other = ("after", A, B), ("last", ("after", A, A), ("after", B, B))
        told = self.check_told(one, other, 2, "never")
        self.assertEqual(told, ("never", ((((END,), (HALF, HALF)),),)))
        one, other = ("first", ("after", A, A), ("after", B, B)), ("after", A, B)
        self.assertEqual(self.check_told(one, other, 2, "never"), ("never", ((((HALF, HALF), (END,)),),)))
        one = ("first", ("after", A, A, A), ("after", B, B, B))
        other = ("last", ("after", A, A, B, R0), ("after", B, B, A, R0))
        self.check_told(one, other, 2, "never")

    def test_rests(self):
        for n in range(4):
            for m in range(4):
                told = self.check_told(("rest", n), ("rest", m), 0)
                self.assertEqual(told, ("later", ()) if n > m else ("never", ((((END,), (END,)),),)))
                self.check_alike(("rest", n), ("rest", m), 0, n == m)
        one, other = ("last", R1, ("first", ("rest", 9), ("rest", 4))), ("given_up", 8, ("after", R2, R2))
        self.check_told(one, other, 0, "never")
        self.check_alike(one, other, 0, True)
        self.check_told(("after", one, R1), other, 0, "later")

    def test_all_of_few_nets(self):
        """Where some of few lengths show that it is later that is told; what is told is let."""
        words = {"never": 0, "later": 0}
        for one in NETS:
            for other in NETS:
                told = self.check_told(one, other, 3)
                found = any(hour_told(one, real(lengths)) > hour_told(other, real(lengths))
                            for lengths in all_lengths(3, 0, 1, 3))
                self.assertTrue(told[0] == "later" or not found)
                words[told[0]] += 1
                wanted = told[0] == "never" and never_later(other, one, 3)[0] == "never"
                self.check_alike(one, other, 3, wanted)
        self.assertGreater(min(words.values()), 200)

    def test_thrown(self):
        dice = Dice(41)
        words = {"never": 0, "later": 0}
        for k in range(400):
            many = 1 + k % 6
            one, other = net_made(dice, many, k % 8), net_made(dice, many, k % 5)
            if k % 3 == 0:
                # Nearly alike nets.
                other = (dice.one_of(["last", "first"]), one, ("rest", dice.below(3)))
            if lots_told(one, many, LEASTS) and lots_told(other, many, GREATESTS):
                words[self.check_told(one, other, many)[0]] += 1
        self.assertGreater(min(words.values()), 50)

    def test_six_works(self):
        works = [("work", k) for k in range(6)]
        pairs = [("first", works[k], works[k + 1]) for k in (0, 2, 4)]
        one, other = ("last", *pairs), beside("last", works)
        self.check_told(one, other, 6, "never")
        self.check_told(other, one, 6, "later")
        one = ("after", *[("work", k) for k in (0, 2, 4)], ("after", works[1], works[3], works[5]))
        other = ("after", *[("last", works[k], works[5 - k]) for k in range(3)])
        self.check_told(other, one, 6, "never")
        self.check_told(one, other, 6, "later")
        self.check_told(one, ("after", other, *works[:3]), 6, "never")
        self.check_told(one, ("after", other, *works[:2]), 6, "later")
        self.check_told(("after", ("first", works[0], works[5]), works[1], works[4]), other, 6, "later")
        self.check_told(("after", ("first", works[0], works[5]), ("first", *works[1:5]), works[3]), other, 6, "never")

    def test_more_works_than_a_net_has(self):
        works = [("work", k) for k in range(12)]
        one, other = ("after", ("first", *works[:4]), ("first", *works[8:])), ("after", *works[3:9:5])
        self.check_told(one, other, 12, "never")
        self.check_told(other, one, 12, "later")

    def test_24_lots_of_24_sums(self):
        row = beside("last", [("rest", n) for n in range(24)])
        self.assertEqual(len(self.check_told(row, row, 0, "never")[1]), 24)
        col = beside("first", [("rest", n) for n in range(24)])
        self.check_told(col, row, 0, "never")
        self.check_told(row, col, 0, "later")
        self.check_told(col, col, 0, "never")
        self.check_alike(row, ("rest", 23), 0, True)
        self.check_alike(col, ("rest", 0), 0, True)


class Shown(Never):
    def test_mixtures_of_another_hand(self):
        # first(2A, 2B) and A with B, last(A, B) beside it.
        one, other = ("first", ("after", A, A), ("after", B, B)), ("last", ("after", A, B), ("after", A, A, B))
        lots = leasts_of(one, 2), greatests_of(other, 2)
        self.assertEqual(lots, (((((0, 2), 0), ((2, 0), 0)),), ((((1, 1), 0), ((2, 1), 0)),)))
        right = [
            ((HALF, HALF), (END, O)), ((HALF, HALF), (O, END)), ((HALF, HALF), (HALF, HALF)), (((1, 3), (2, 3)), ((2, 3), (1, 3))),
            (((1, 2), (1, 2)), ((10 ** 30 - 1, 10 ** 30), (1, 10 ** 30))),
        ]
        for mixture in right:
            self.check_let(one, other, 2, ("never", ((mixture,),)), True)
        wrong = [
            ((END, O), (END, O)), ((END, O), (O, END)), ((O, END), (END, O)), (((1, 3), (2, 3)), (END, O)), (((1, 3), (2, 3)), ((3, 4), (1, 4))),
            # Not 1 in all.
            ((HALF, O), (END, O)), ((HALF, (1, 3)), (END, O)), ((O, O), (END, O)), ((HALF, HALF), (END, END)),
            ((HALF, HALF), (END, HALF)), ((HALF, HALF), (HALF, O)), ((END, END), ((2, 1), (2, 1))),
            # Below 0.
            (((3, 2), (-1, 2)), (END, O)), ((HALF, HALF), ((2, 1), (-1, 1))), ((HALF, HALF), ((-1, 1), (2, 1))),
            # Too many, too few.
            ((HALF, HALF), (END,)), ((HALF, HALF), (END, O, O)), ((END,), (END, O)), ((HALF, HALF, O), (END, O)),
            ((), (END, O)), ((HALF, HALF), ()), ((HALF, HALF),), (), ((HALF, HALF), (END, O), ()),
            # No fractions, no tuples.
            (((2, 4), HALF), (END, O)), (((-1, -2), HALF), (END, O)), ((HALF, HALF), (1, 0)), ((HALF, HALF), (True, False)),
            ((HALF, HALF), ((True, 1), O)), ((HALF, HALF), (END, (False, 1))), ((HALF, HALF), (END, (0, 2))),
            ([HALF, HALF], (END, O)), ((HALF, HALF), [END, O]), ([1, 2], HALF), [(HALF, HALF), (END, O)], None,
        ]
        for mixture in wrong:
            self.check_let(one, other, 2, ("never", ((mixture,),)), False)

    def test_each_lot_and_the_rests_are_looked_at(self):
        one, other = ("last", A, R1), ("first", ("last", A, R1), ("after", A, B, R1))
        rows = never_later(one, other, 2)[1]
        self.assertEqual((len(rows), len(rows[0])), (2, 2))
        self.check_let(one, other, 2, ("never", rows), True)
        self.check_let(one, other, 2, ("never", rows[::-1]), False)
        self.check_let(one, other, 2, ("never", rows[:1]), False)
        self.check_let(one, other, 2, ("never", (rows[0],)), False)
        self.check_let(one, other, 2, ("never", (*rows, rows[1])), False)
        self.check_let(one, other, 2, ("never", (rows[0], rows[1][:1])), False)
        self.check_let(one, other, 2, ("never", (rows[0], (*rows[1], rows[1][1]))), False)
        self.check_let(one, other, 2, ("never", (rows[0], rows[1][::-1])), False)
        self.check_let(one, other, 2, ("never", (list(rows[0]), rows[1])), False)
        self.check_let(one, other, 2, ("never", list(rows)), False)
        self.check_let(one, other, 2, ("never", (rows[0], None)), False)
        self.check_let(one, other, 2, ("never", ()), False)
        # The rests alone are too much here, the works alone there.
        for net, more in ((("after", A, R2), ("after", A, R1)), (("after", A, A, R1), ("after", A, R1)), (R1, A), (A, R1)):
            self.check_let(net, more, 2, ("never", ((((END,), (END,)),),)), False)
        for net, more in ((("after", A, R1), ("after", A, R1)), (("after", A, R1), ("after", A, B, R2)), (R0, A), (R0, R0)):
            self.check_let(net, more, 2, ("never", ((((END,), (END,)),),)), True)

    def test_lengths_of_another_hand(self):
        one, other = ("last", A, B), ("after", A, R1)
        for lengths in [*all_lengths(2, 0, 1, 2, 3), ((1, 2), (3, 2)), ((1, 2), (5, 3)), (O, (10 ** 30, 1)), ((1, 7), (8, 7)),
                        ((1, 7), (9, 7))]:
            wanted = hour_told(one, real(lengths)) > hour_told(other, real(lengths))
            self.check_let(one, other, 2, ("later", lengths), wanted)
        for lengths in ((O,), (O, (3, 1), O), (), ((3, 1),), ((-1, 1), (3, 1)), ((-5, 1), (-1, 2)), (0, 3), ((0, 2), (3, 1)),
                        (O, (6, 2)), (O, (3, True)), ((False, 1), (3, 1)), [O, (3, 1)], (O, [3, 1]), (O, "3"), None, 3):
            self.check_let(one, other, 2, ("later", lengths), False)
        self.check_let(one, other, 2, ("later", whole(0, 3)), True)
        # Lengths that leave both alike.
        self.check_let(A, B, 2, ("later", whole(2, 2)), False)
        self.check_let(A, B, 2, ("later", whole(2, 3)), False)
        self.check_let(A, B, 2, ("later", ((2, 1), (BIG, BIG - 1))), True)

    def test_a_thing_of_the_other_word(self):
        self.check_let(A, A, 1, ("later", whole(1)), False)
        self.check_let(A, A, 1, ("never", whole(1)), False)
        told = never_later(A, A, 1)
        for word in ("later", "Never", "never ", "", None, 0, True, ("never",), ["never"]):
            self.check_let(A, A, 1, (word, told[1]), False)
        self.check_let(R2, R1, 0, ("later", ()), True)
        self.check_let(R2, R1, 0, ("never", ()), False)
        self.check_let(R1, R2, 0, ("later", ()), False)

    def test_never_are_there_both(self):
        for one, other in [*NEVER, *LATER]:
            words = [never_later(one, other, 3)[0]]
            lots = leasts_of(one, 3), greatests_of(other, 3)
            even = tuple(tuple(tuple(tuple((1, len(lot)) for _ in lot) for lot in pair) for pair in
                               [(ones, others) for others in lots[1]]) for ones in lots[0])
            if shows_never(one, other, 3, ("never", even)):
                words.append("never")
            for lengths in all_lengths(3, 0, 1, 4):
                if shows_never(one, other, 3, ("later", lengths)):
                    words.append("later")
            self.assertEqual(len(set(words)), 1)

    def test_mixtures_with_one_thing_otherwise(self):
        let = [0, 0]
        dice = Dice(43)
        for one, other in [*NEVER, *ALIKE]:
            rows = never_later(one, other, 3)[1]
            for k, row in enumerate(rows):
                for at, (ones, others) in enumerate(row):
                    swapped = ones[1:] + ones[:1], others[1:] + others[:1]
                    for mixture in ((swapped[0], others), (ones, swapped[1]), swapped, (others, ones), (ones[:-1], others),
                                    ((END, *[O] * (len(ones) - 1)), others), (ones, (*[O] * (len(others) - 1), END))):
                        changed = (*row[:at], mixture, *row[at + 1:])
                        thing = ("never", (*rows[:k], changed, *rows[k + 1:]))
                        wanted = never_let(one, other, 3, thing)
                        self.assertIs(shows_never(one, other, 3, thing), wanted)
                        let[wanted] += 1
            self.check_let(one, other, 3, ("never", (*rows, dice.one_of(rows))), False)
        self.assertGreater(min(let), 50)

    def test_things(self):
        told = never_later(A, ("last", A, B), 2)
        for thing in [*things(), deep(tuple, told, 20), (told,), list(told), (*told, ()), told[:1], told[1]]:
            self.check_let(A, ("last", A, B), 2, thing, False)
            self.check_let(("last", A, B), A, 2, thing, False)
            self.check_let(A, ("last", A, B), 2, ("never", (thing,)), False)
            self.check_let(A, ("last", A, B), 2, ("never", ((thing,),)), False)
            self.check_let(A, ("last", A, B), 2, ("never", (((thing, (O, END)),),)), False)
            self.check_let(A, ("last", A, B), 2, ("never", ((((END,), thing),),)), False)
            self.check_let(A, ("last", A, B), 2, ("never", ((((END,), (O, END)), thing),)), False)
            self.check_let(("last", A, B), A, 2, ("later", (O, thing)), False)
            self.check_let(("last", A, B), A, 2, ("later", (thing, END)), False)
            self.check_let(("last", A, B), A, 2, ("later", (O, END), thing), False)
            self.check_let(("last", A, B), A, 2, (thing, (O, END)), False)
            if thing != ():
                self.check_let(R2, R1, 0, ("later", thing), False)
        self.check_let(A, ("last", A, B), 2, ("never", ((((END,), (O, END)),),)), True)
        self.check_let(("last", A, B), A, 2, ("later", (O, END)), True)


class Many(Never):
    """TooMany just where it is told, whatever is compared."""

    def setUp(self):
        threes = [[("rest", n) for n in (3 * k, 3 * k + 1, 3 * k + 2)] for k in range(3)]
        # Too many leasts, but not greatests; and the other way round.
        self.wide = ("first", *[("last", *some) for some in threes])
        self.high = ("last", *[("first", *some) for some in threes])
        self.both = beside("last", [("rest", n) for n in range(25)])

    def check_many(self, one, other, never, alike_too):
        if never:
            self.assertEqual(vars(self.refused(TooMany, never_later, one, other, 3)), {})
            for thing in [*things(), ("never", ()), ("later", whole(0, 0, 0)), ("later", whole(99, 99, 99))]:
                told_of(self, lambda this: self.refused(TooMany, shows_never, one, other, 3, this) and None, thing)
        else:
            told = self.check_told(one, other, 3)
            self.assertIs(shows_never(one, other, 3, told), True)
            self.assertIs(shows_never(one, other, 3, None), False)
        if alike_too:
            self.assertEqual(vars(self.refused(TooMany, are_alike, one, other, 3)), {})
            self.refused(TooMany, are_alike, other, one, 3)
        else:
            self.ask(are_alike, one, other, 3)

    def test_of_one_leasts_of_the_other_greatests(self):
        for net in (A, R0, R1, ("rest", 90), ("last", A, B, C)):
            self.check_many(self.wide, net, True, True)
            self.check_many(net, self.wide, False, True)
            self.check_many(self.high, net, False, True)
            self.check_many(net, self.high, True, True)
            self.check_many(self.both, net, True, True)
            self.check_many(net, self.both, True, True)
            self.check_many(net, net, False, False)
        self.check_many(self.high, self.wide, False, True)
        self.check_many(self.wide, self.high, True, True)

    def test_against_itself(self):
        for net in (self.wide, self.high, self.both):
            self.check_many(net, net, True, True)

    def test_24_and_25(self):
        fine = beside("last", [("rest", n) for n in range(24)])
        self.check_many(fine, fine, False, False)
        self.check_many(fine, self.both, True, True)
        self.check_many(self.both, fine, True, True)

    def test_in_a_net(self):
        self.check_many(("after", A, ("given_up", 1, self.wide)), B, True, True)
        self.check_many(B, ("after", A, ("given_up", 1, self.high)), True, True)
        everything = beside("first", [("rest", n) for n in range(9)])
        # Three parts of four have too many choices of lots: no refusal.
        flat = (*self.wide, everything)
        self.check_many(flat, R0, False, False)
        self.check_many(("first", self.wide, everything), R0, True, True)
        self.check_many(R0, ("first", self.wide, everything), False, True)


if __name__ == "__main__":
    unittest.main()
