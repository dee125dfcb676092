"""Stage 2: what a net is, and what stands in it."""

import inspect
import unittest

from lateshares import nets
from lateshares.nets import MOST_JOINS, is_net, joins_in, parts_of, works_in
from tests.anything import deep, things, told_of

A = ("work", 0)
B = ("work", 1)
C = ("work", 2)
R = ("rest", 5)
EACH_MANY = (0, 1, 2, 3, 4, 5, 6, 12, 13)
MEETINGS = ("after", "last", "first")
HOURED = ("not_before", "given_up")
BIG = 10 ** 12 - 1

# A net with each kind in it, its eight joins, of works 0, 1, 3 and 5.
MIXED = (
    "after",
    ("last", ("work", 5), ("rest", 0), ("first", ("work", 1), ("work", 1))),
    ("not_before", 9, ("given_up", 0, ("work", 3))),
    ("first", ("rest", 2), ("rest", 2), ("work", 0), ("after", ("work", 5), ("rest", 1))),
    ("given_up", 4, ("rest", 7)),
)


def chain(words, inmost=A):
    """A net whose joins stand one in another, by these words, the last one inmost."""
    net = inmost
    for word in reversed(words):
        net = (word, 3, net) if word in HOURED else (word, net, B)
    return net


def wide(many):
    """A net of so many joins (12 to 14), none of them in more than two others."""
    beside = [("first", A, B)] * (many - 4)
    return ("last", *[("after", *beside[k::3]) for k in range(3)])


class Interface(unittest.TestCase):
    def test_names_and_arguments(self):
        wanted = {"is_net": "(thing, many)", "joins_in": "(net)", "works_in": "(net)", "parts_of": "(net)"}
        for name, arguments in wanted.items():
            function = getattr(nets, name)
            self.assertEqual(function.__module__, "lateshares.nets")
            self.assertEqual(str(inspect.signature(function)), arguments, name)

    def test_most_joins(self):
        self.assertIs(type(MOST_JOINS), int)
        self.assertEqual(MOST_JOINS, 12)


class IsNet(unittest.TestCase):
    def check(self, thing, many, wanted):
        told = told_of(self, lambda one: is_net(one, many), thing)
        self.assertIs(told, wanted, (thing, many))

    def check_no_net(self, thing, many=6):
        """No net alone, nor as a part in any place of any join."""
        self.check(thing, many, False)
        for word in MEETINGS:
            for parts in [(thing, R), (R, thing), (R, R, thing), (R, thing, R, R), (R, R, R, thing)]:
                self.check((word, *parts), many, False)
        for word in HOURED:
            self.check((word, 1, thing), many, False)
        self.check(("last", R, ("not_before", 2, ("after", R, ("first", R, R, thing)))), many, False)

    def test_works(self):
        for many in EACH_MANY:
            for i in range(-3, 16):
                self.check(("work", i), many, 0 <= i < many)
                self.check(("after", R, ("work", i)), many, 0 <= i < many)
                self.check(("given_up", 1, ("work", i)), many, 0 <= i < many)
            self.check(("work", BIG), many, False)

    def test_rests(self):
        for many in EACH_MANY:
            for n in (0, 1, 5, BIG):
                self.check(("rest", n), many, True)
            for n in (-1, -2, -BIG):
                self.check(("rest", n), many, False)

    def test_hours(self):
        for word in HOURED:
            for n in (0, 1, 5, BIG):
                self.check((word, n, R), 0, True)
                self.check((word, n, A), 1, True)
                self.check((word, n, A), 0, False)
            for n in (-1, -2, -BIG):
                self.check_no_net((word, n, A))

    def test_how_many_parts(self):
        for word in MEETINGS:
            for many_parts in range(8):
                self.check((word, *[A] * many_parts), 1, 2 <= many_parts <= 4)
                self.check((word, *[R] * many_parts), 0, 2 <= many_parts <= 4)
            self.check_no_net((word,))
            self.check_no_net((word, A))
            self.check_no_net((word, A, B, A, B, A))
        for word in HOURED:
            for thing in [(word,), (word, 1), (word, A), (word, A, B), (word, A, 1), (word, 1, A, B), (word, 1, 1),
                          (word, 1, A, 1), (word, R, A), (word, 1, 2, A), (word, (1, 1), A), (word, 1, (A,))]:
                self.check_no_net(thing)
        for word in ("work", "rest"):
            for thing in [(word,), (word, 0, 0), (word, A), (word, 0, A), (word, (0,)), (word, (0, 1)), (word, "0"),
                          (word, None), (word, [0]), (word, {}), (word, 0, None)]:
                self.check_no_net(thing)

    def test_truths_are_no_numbers(self):
        # Asked behind the nets that they are alike to, so that nothing told of these is told of them.
        for word in ("work", "rest"):
            for truth in (True, False):
                self.check((word, int(truth)), 6, True)
                self.check_no_net((word, truth))
        for word in HOURED:
            for truth in (True, False):
                self.check((word, int(truth), A), 6, True)
                self.check_no_net((word, truth, A))
        self.check(("work", 1), 6, True)

    def test_words(self):
        self.check(("work", 1), 6, True)
        spoilt = [
            "", "Work", "WORK", "works", "wor", "work ", " work", "w", "w0", "rests", "Rest", "later", "afters", "After",
            "lasts", "firsts", "not before", "notbefore", "not_Before", "givenup", "given up", "given_up ", "before",
            "and", "or", "max", "min", "sum", None, 0, 1, True, ("work",), ["work"], {}, (),
        ]
        for word in spoilt:
            for thing in [(word, 0), (word, A, B), (word, 0, A), (word,), (word, A, B, C, R)]:
                self.check_no_net(thing)

    def test_words_exchanged(self):
        for thing in [("work", A, B), ("rest", A, B), ("after", 0), ("last", 1), ("first", 0), ("not_before", 0),
                      ("given_up", 0), ("after", 0, A), ("last", 0, A), ("first", 0, A), ("work", 0, A), ("rest", 0, A),
                      ("after", 1, 2), (0, "work"), (5, "rest"), (A, "after", B), (A, B, "last")]:
            self.check_no_net(thing)

    def test_lists(self):
        for thing in [["work", 0], ["rest", 5], ["after", A, B], ["not_before", 1, A], ("after", [A, B]),
                      ("after", ["work", 0], B), ("last", (A, B)), ("first", [A], [B]), (["after"], A, B),
                      ("not_before", [1], A), ("given_up", 1, ["work", 0])]:
            self.check_no_net(thing)

    def test_other_kinds(self):
        for thing in ["work", "rest", "w0", "5", "after(w0, w1)", "wo", None, 0, 5, True, {}, {"work": 0}, (), ("work",),
                      ((),), (A,), (A, B), ("work0",), ((A,), B), ("work", 0, 1), {"after": (A, B)}, ("wr", 0)]:
            self.check_no_net(thing)

    def test_anything(self):
        for many in EACH_MANY:
            for thing in things():
                self.check(thing, many, False)
        for thing in things():
            self.check_no_net(thing)
            self.check_no_net((thing, A, B))
            if thing not in ("work", "rest"):
                self.check_no_net((thing, 0))
            if type(thing) is not int:
                self.check_no_net(("work", thing))
                self.check_no_net(("rest", thing))
                for word in HOURED:
                    self.check_no_net((word, thing, A))

    def test_nested_ones(self):
        self.check(MIXED, 6, True)
        self.check(MIXED, 12, True)
        self.check(MIXED, 5, False)
        self.check(MIXED, 0, False)
        for many in EACH_MANY:
            self.check(("after", ("last", A, R), ("not_before", 2, ("first", B, C))), many, many >= 3)
            self.check(("first", ("after", R, R), ("given_up", 0, ("last", R, R, R, R))), many, True)

    def test_each_word_in_each(self):
        for word in MEETINGS + HOURED:
            for inner in MEETINGS + HOURED:
                self.check(chain([word, inner]), 2, True)
                self.check(chain([word, inner], inmost=C), 2, False)
                self.check(chain([word, inner], inmost=("rest", -1)), 2, False)

    def test_twelve_joins_and_thirteen_of_each_word(self):
        for word in MEETINGS + HOURED:
            for many_joins in (11, 12):
                self.check(chain([word] * many_joins), 6, True)
            for many_joins in (13, 14, 25):
                self.check(chain([word] * many_joins), 6, False)

    def test_twelve_joins_and_thirteen_of_all_words(self):
        words = (MEETINGS + HOURED) * 3
        for start in range(5):
            mixed = words[start:] + words[:start]
            self.check(chain(mixed[:12]), 6, True)
            self.check(chain(mixed[:13]), 6, False)

    def test_twelve_joins_and_thirteen_beside_one_another(self):
        self.check(wide(12), 6, True)
        self.check(wide(13), 6, False)
        self.check(wide(14), 6, False)
        four = ("last", A, B)
        three_fours = ("first", four, four, four, four)
        self.check(("after", three_fours, three_fours), 6, True)
        self.check(("after", three_fours, three_fours, four), 6, True)
        self.check(("after", three_fours, three_fours, ("not_before", 1, A)), 6, True)
        self.check(("after", three_fours, three_fours, four, four), 6, False)
        self.check(("after", three_fours, three_fours, ("not_before", 1, ("given_up", 2, A))), 6, False)

    def test_joins_alike_are_counted_each(self):
        """Thirteen joins, of which many are one and the same."""
        pair = ("first", A, B)
        self.check(("last", *[("after", pair, pair, pair)] * 3), 6, False)
        self.check(("last", *[("after", pair, pair)] * 3), 6, True)

    def test_many_parts_but_few_joins(self):
        fours = ("last", A, B, C, R)
        self.check(("after", fours, fours, fours, ("first", fours, fours, fours, A)), 6, True)

    def test_what_holds_itself_without_end(self):
        """Thirty deep, two parts each: as a tree a thousand million joins."""
        net = R
        for _ in range(30):
            net = ("after", net, net)
        self.assertIs(is_net(net, 6), False)
        self.assertIs(is_net(deep(tuple, R), 6), False)

    def test_no_net_behind_too_many_joins(self):
        self.check(chain(["after"] * 13, inmost=None), 6, False)
        self.check(chain(["given_up"] * 12, inmost=("work", 6)), 6, False)

    def test_by_name(self):
        self.assertIs(is_net(thing=A, many=1), True)
        self.assertIs(is_net(many=0, thing=A), False)
        self.assertIs(is_net(A, many=1), True)


class InNets(unittest.TestCase):
    def check_works(self, net, wanted):
        told = told_of(self, works_in, net)
        self.assertEqual(told, wanted)
        self.assertIs(type(told), tuple)
        self.assertEqual({type(one) for one in told} | {int}, {int})

    def check_joins(self, net, wanted):
        told = told_of(self, joins_in, net)
        self.assertEqual(told, wanted)
        self.assertIs(type(told), int)

    def test_joins_in(self):
        self.check_joins(A, 0)
        self.check_joins(R, 0)
        for word in MEETINGS:
            self.check_joins((word, A, B), 1)
            self.check_joins((word, A, R, A, B), 1)
            self.check_joins((word, (word, A, B), A, (word, A, B)), 3)
        for word in HOURED:
            self.check_joins((word, 7, A), 1)
            self.check_joins((word, 0, R), 1)
            self.check_joins((word, 12, (word, 2, A)), 2)
        self.check_joins(MIXED, 8)

    def test_joins_in_chains(self):
        for word in MEETINGS + HOURED:
            for many_joins in range(13):
                self.check_joins(chain([word] * many_joins), many_joins)

    def test_joins_in_wide_ones(self):
        self.check_joins(wide(12), 12)
        pair = ("first", A, B)
        self.check_joins(("last", pair, pair, pair), 4)
        self.check_joins(("after", ("last", pair, pair), ("first", pair, pair)), 7)

    def test_works_in(self):
        for i in range(6):
            self.check_works(("work", i), (i,))
        self.check_works(("rest", 0), ())
        self.check_works(("rest", 3), ())
        for word in MEETINGS:
            self.check_works((word, C, A), (0, 2))
            self.check_works((word, A, C), (0, 2))
            self.check_works((word, B, B, B), (1,))
            self.check_works((word, R, R), ())
            self.check_works((word, ("work", 5), ("work", 3), ("work", 4), A), (0, 3, 4, 5))
            self.check_works((word, (word, C, B), R, (word, B, A)), (0, 1, 2))
        for word in HOURED:
            self.check_works((word, 4, C), (2,))
            self.check_works((word, 0, R), ())
            self.check_works((word, 1, ("after", C, A)), (0, 2))
        self.check_works(MIXED, (0, 1, 3, 5))

    def test_works_in_many_orders(self):
        works = [("work", i) for i in (4, 1, 5, 0, 3, 2)]
        for k in range(6):
            turned = works[k:] + works[:k]
            self.check_works(("last", ("after", *turned[:3]), ("first", *turned[3:])), (0, 1, 2, 3, 4, 5))
            self.check_works(("last", ("after", *turned[:2]), ("first", *turned[:2])),
                             tuple(sorted(i for _, i in turned[:2])))

    def test_a_rests_number_is_no_work(self):
        self.check_works(("after", ("rest", 1), ("work", 4)), (4,))
        self.check_works(("not_before", 2, ("work", 4)), (4,))

    def test_by_name(self):
        self.assertEqual(joins_in(net=MIXED), 8)
        self.assertEqual(works_in(net=MIXED), (0, 1, 3, 5))
        self.assertEqual(parts_of(net=("last", A, R)), (A, R))


class Parts(unittest.TestCase):
    def check(self, net, wanted):
        told = told_of(self, parts_of, net)
        self.assertEqual(told, wanted)
        self.assertIs(type(told), tuple)

    def test_of_works_and_rests(self):
        for i in range(6):
            self.check(("work", i), ())
        for n in (0, 1, 9, BIG):
            self.check(("rest", n), ())

    def test_of_two_to_four(self):
        for word in MEETINGS:
            self.check((word, A, B), (A, B))
            self.check((word, B, A), (B, A))
            self.check((word, C, A, R), (C, A, R))
            self.check((word, R, A, R, A), (R, A, R, A))
            self.check((word, ("last", A, B), A), (("last", A, B), A))

    def test_of_hours(self):
        for word in HOURED:
            self.check((word, 9, A), (("rest", 9), A))
            self.check((word, 0, R), (("rest", 0), R))
            self.check((word, 3, (word, 4, B)), (("rest", 3), (word, 4, B)))
            self.check((word, BIG, ("after", A, B)), (("rest", BIG), ("after", A, B)))

    def test_parts_are_nets(self):
        waiting = [MIXED]
        while waiting:
            net = waiting.pop()
            self.assertIs(is_net(net, 6), True)
            waiting.extend(parts_of(net))


if __name__ == "__main__":
    unittest.main()
