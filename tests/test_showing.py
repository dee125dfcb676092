"""Point 16: texts of nets, lengths and runs."""

import unittest

from lateshares import showing
from lateshares.making import behind, parted, raised
from lateshares.nets import joins_in
from lateshares.reading import read_lengths, read_net, read_run
from lateshares.showing import show_lengths, show_net, show_run
from tests.asked import Asked, runs_thrown, whole
from tests.made import A, B, C, NETS, R0, R1, R2
from tests.trial import parts_told

BIG = 10 ** 12 - 1
EACH = ("after", A, ("last", B, ("rest", 5)), ("not_before", 9, C))


def shown(net):
    if net[0] in ("work", "rest"):
        return ("w" if net[0] == "work" else "") + str(net[1])
    return net[0] + "(" + ", ".join(shown(one) for one in parts_told(net)) + ")"


class Showing(Asked):
    def check(self, question, handed, wanted):
        told = self.ask(question, *handed)
        self.assertIs(type(told), str)
        self.assertEqual(told, wanted)


class Interface(Showing):
    def test_names_and_arguments(self):
        self.check_interface(showing, {
            "show_net": "(net)", "show_lengths": "(lengths)", "show_run": "(net, plan, truth)",
        })

    def test_by_names(self):
        self.assertEqual(show_net(net=A), "w0")
        self.assertEqual(show_lengths(lengths=whole(1, 2)), "1 2")
        self.assertEqual(show_run(truth=whole(3), plan=whole(2), net=A), "w0 : 2 > 3")


class Nets(Showing):
    def test_each_kind(self):
        for net, wanted in [
            (A, "w0"), (("work", 5), "w5"), (R0, "0"), (R2, "2"), (("rest", BIG), "999999999999"),
            (("after", A, B), "after(w0, w1)"), (("last", R1, B, A), "last(1, w1, w0)"),
            (("first", A, A, R0, C), "first(w0, w0, 0, w2)"), (("not_before", 0, A), "not_before(0, w0)"),
            (("given_up", BIG, R1), "given_up(999999999999, 1)"),
            (EACH, "after(w0, last(w1, 5), not_before(9, w2))"),
            (("given_up", 3, ("not_before", 2, ("first", A, ("rest", 4)))), "given_up(3, not_before(2, first(w0, 4)))"),
        ]:
            self.check(show_net, (net,), wanted)

    def test_all(self):
        for net in NETS:
            self.check(show_net, (net,), shown(net))
        for net, *_ in runs_thrown(81, 100, 6, 12):
            self.check(show_net, (net,), shown(net))

    def test_what_was_told_is_handed_in(self):
        self.check(show_net, (parted(behind(A, 6, EACH), 6, 9),),
                   "after(w0, after(after(w6, w9), last(w7, 5), not_before(9, w8)))")
        self.check(show_net, (raised(("rest", BIG), 10),), "9999999999990")
        net = ("last", A, R1)
        for _ in range(1500):
            net = behind(net, 1, R1)
        self.assertEqual(show_net(net), "after(" * 1500 + "last(w0, 1)" + ", 1)" * 1500)
        self.assertEqual(joins_in(net), 1501)


class Lengths(Showing):
    def test_any_fractions(self):
        for lengths, wanted in [
            ((), ""), (whole(0), "0"), (whole(1, 2, 3), "1 2 3"), (((1, 2), (-1, 3), (5, 1)), "1/2 -1/3 5"),
            (whole(-4, 0), "-4 0"), (((BIG, BIG - 1), (1, BIG)), "999999999999/999999999998 1/999999999999"),
            (((10 ** 40, 3),), "1" + "0" * 40 + "/3"), (whole(*range(13)), "0 1 2 3 4 5 6 7 8 9 10 11 12"),
        ]:
            self.check(show_lengths, (lengths,), wanted)


class Runs(Showing):
    def test_runs(self):
        self.check(show_run, (EACH, whole(1, 2, 3), ((1, 2), (0, 1), (7, 3))),
                   "after(w0, last(w1, 5), not_before(9, w2)) : 1 2 3 > 1/2 0 7/3")
        self.check(show_run, (R0, whole(0), whole(0)), "0 : 0 > 0")

    def test_read_again(self):
        for net, plan, truth, _ in runs_thrown(82, 150, 6, 12):
            many = len(plan)
            self.assertEqual(read_net(show_net(net), many), net)
            self.assertEqual(read_lengths(show_lengths(plan), many), plan)
            self.assertEqual(read_run(show_run(net, plan, truth), many), (net, plan, truth))


if __name__ == "__main__":
    unittest.main()
