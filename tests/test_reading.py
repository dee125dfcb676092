"""Point 16: nets, lengths and runs read from texts."""

import unittest

from lateshares import reading
from lateshares.errors import NoText
from lateshares.fractions import is_fraction
from lateshares.nets import is_net, joins_in
from lateshares.reading import read_lengths, read_net, read_run
from lateshares.showing import show_lengths, show_net, show_run
from tests.anything import things
from tests.asked import Asked, beside, runs_thrown, whole
from tests.made import A, B, C, NETS, R0, R1, R2, Dice, net_made

BIG = 10 ** 12 - 1
O = (0, 1)
SIGNS = " ,()w0192/->:_-+.\n\tae\u0663\u00b2"
EACH = "after(w0, last(w1, 5), not_before(9, w2))"
EACH_RUN = EACH + " : 1/2 2 3 > 6 8 12"


def deep_text(word, depth, inmost="w0"):
    return f"{word}(" * depth + inmost + ", w0)" * depth


def spoilt(text, dice, many):
    """Texts with one sign put in, taken out, exchanged; with two that change places."""
    for _ in range(many):
        at = dice.below(len(text) + 1)
        sign = dice.one_of(SIGNS)
        yield text[:at] + sign + text[at:]
        yield text[:at] + sign + text[at + 1:]
        yield text[:at] + text[at + 1:]
        yield text[:at] + text[at:at + 2][::-1] + text[at + 2:]
        other = dice.below(len(text) + 1)
        yield text[:min(at, other)] + text[max(at, other):]
        yield text[:max(at, other)] + text[min(at, other):]


class Reading(Asked):
    def check(self, question, text, many, wanted):
        self.assertEqual(self.ask(question, text, many), wanted)

    def check_refused(self, question, text, many):
        error = None
        try:
            question(text, many)
        except NoText as caught:
            error = caught
        self.assertIsNotNone(error, (question.__name__, text, many))
        self.assertIs(type(error), NoText)
        self.assertEqual(list(vars(error)), ["text"])
        self.assertIs(error.text, text)


class Interface(Reading):
    def test_names_and_arguments(self):
        self.check_interface(reading, {
            "read_net": "(text, many)", "read_lengths": "(text, many)", "read_run": "(text, many)",
        })

    def test_by_names(self):
        self.assertEqual(read_net(many=1, text="w0"), A)
        self.assertEqual(read_lengths(many=2, text="1 2"), whole(1, 2))
        self.assertEqual(read_run(many=1, text="w0 : 2 > 3"), (A, whole(2), whole(3)))


class Nets(Reading):
    def test_each_kind(self):
        for text, wanted in [
            ("w0", A), ("w5", ("work", 5)), ("0", R0), ("2", R2), ("999999999999", ("rest", BIG)), ("10", ("rest", 10)),
            ("after(w0, w1)", ("after", A, B)), ("last(1, w1, w0)", ("last", R1, B, A)),
            ("first(w0, w0, 0, w2)", ("first", A, A, R0, C)), ("not_before(0, w0)", ("not_before", 0, A)),
            ("given_up(999999999999, 1)", ("given_up", BIG, R1)),
            (EACH, ("after", A, ("last", B, ("rest", 5)), ("not_before", 9, C))),
            ("given_up(3, not_before(2, first(w0, 4)))",
             ("given_up", 3, ("not_before", 2, ("first", A, ("rest", 4))))),
        ]:
            self.check(read_net, text, 6, wanted)
            self.assertEqual(show_net(wanted), text)

    def test_all(self):
        dice = Dice(91)
        for net in [*NETS, *[net_made(dice, 3, k % 13, 10 ** 12) for k in range(100)]]:
            self.check(read_net, show_net(net), 3, net)
            self.check(read_net, show_net(net), 6, net)

    def test_works(self):
        for many in range(1, 7):
            for work in range(10):
                text = f"w{work}"
                for one in (text, f"after({text}, 1)", f"not_before(0, {text})"):
                    if work < many:
                        self.assertEqual(show_net(read_net(one, many)), one)
                    else:
                        self.check_refused(read_net, one, many)

    def test_joins(self):
        for word in ("after", "last", "first"):
            self.assertEqual(joins_in(read_net(deep_text(word, 12), 1)), 12)
            for depth in (13, 14, 50, 300, 390):
                self.check_refused(read_net, deep_text(word, depth), 1)
        flat = [f"last(w0, {n})" for n in range(12)]
        for count in (4, 8, 9, 10, 12):
            net = beside("first", [("last", A, ("rest", n)) for n in range(count)])
            text = show_net(net)
            if joins_in(net) <= 12:
                self.check(read_net, text, 1, net)
            else:
                self.check_refused(read_net, text, 1)
            self.assertIn(flat[count - 1], text)
        text = "not_before(1, " * 12 + "w0" + ")" * 12
        self.assertEqual(joins_in(read_net(text, 1)), 12)
        self.check_refused(read_net, "given_up(1, " + text + ")", 1)

    def test_how_many_parts(self):
        for word in ("after", "last", "first"):
            for count in range(7):
                text = f"{word}(" + ", ".join(["w0"] * count) + ")"
                if 2 <= count <= 4:
                    self.check(read_net, text, 1, (word, *[A] * count))
                else:
                    self.check_refused(read_net, text, 1)
                    self.check_refused(read_net, f"last(w0, {text})", 1)
        for word in ("not_before", "given_up"):
            for parts in ("", "1", "w0", "1, w0, w0", "1, 1, w0", "w0, 1", "w0, w0", "after(1, 1), w0", "w1, w0", "-1, w0", "01, w0",
                          "1/2, w0", "1,w0", "1, ", ", w0", "1 w0", "1, w0,", "1,  w0", " 1, w0", "1, w0 "):
                self.check_refused(read_net, f"{word}({parts})", 2)
            self.check(read_net, f"{word}(1, 1)", 2, (word, 1, R1))

    def test_numbers(self):
        for text in ("00", "01", "w00", "w01", "007", "-1", "-0", "+1", "1.0", "1/2", "1e3", "1_0", "1000000000000", "0000000000001",
                     "w1000000000000", "w-1", "w+1", "w 1", "1 1", "\u0663", "w\u0660", "\u00b2", "w", "W0", "0w", "x0", "w0w0"):
            for whole_text in (text, f"after(w0, {text})", f"given_up(1, {text})"):
                self.check_refused(read_net, whole_text, 6)
            if text not in ("1", "0"):
                self.check_refused(read_net, f"not_before({text}, w0)", 6)
        for n in (0, 1, 9, 10, 100, 10 ** 11, BIG):
            self.check(read_net, str(n), 1, ("rest", n))
            self.check(read_net, f"not_before({n}, w0)", 1, ("not_before", n, A))

    def test_spoilt_by_hand(self):
        for text in ("", " ", "()", "(w0)", "w0()", "1()", "w0(w1, w2)", "after", "after(", "after)", "after()", "after(w0",
                     "after(w0, w1", "after w0, w1)", "after(w0, w1))", "(after(w0, w1)", "after((w0, w1))", "after(w0 w1)",
                     "after(w0,w1)", "after(w0,  w1)", "after(w0 , w1)", "after( w0, w1)", "after(w0, w1 )", "after (w0, w1)",
                     " after(w0, w1)", "after(w0, w1) ", "after(w0, w1)\n", "after(w0,\tw1)", "after(w0,\u00a0w1)", "after(w0, , w1)",
                     "after(, w0, w1)", "after(w0, w1,)", "after(w0, w1, )", "After(w0, w1)", "AFTER(w0, w1)", "work(0)", "rest(1)",
                     "behind(w0, w1)", "notbefore(1, w0)", "not before(1, w0)", "after[w0, w1]", "w0, w1", "w0 w1", "w0,w1", ", ",
                     "after(w0, w1) after(w0, w1)", "after(w0, w1), w0", "after(w0, after)", "after(w0, last())", "(", ")", ")(", "((",
                     "after(w0, w1)(w0, w1)", "after(after(w0, w1)", "after(last, w0, w1)", "1(w0, w1)", "(1, w0)", "('work', 0)"):
            self.check_refused(read_net, text, 3)

    def test_very_many_brackets(self):
        for text in ("(" * 4000, ")" * 4000, "()" * 2000, "after(" * 660, "after(w0, " * 400, "not_before(1, " * 280, "after(" * 660 + ")",
                     "w0" + ")" * 3990, deep_text("last", 360), "after(" * 300 + "w0" + ")" * 300, "(" * 2000 + ")" * 2000,
                     "last(w0, " * 300 + "w0" + ")" * 299, "last(" * 400 + ", w0)" * 400, "a" * 4000, "1" * 4000, "w" + "1" * 3999,
                     " " * 4000, ", " * 2000):
            self.check_refused(read_net, text, 1)
            self.check_refused(read_lengths, text, 1)
            self.check_refused(read_run, text, 1)
            self.check_refused(read_run, text + " : 1 > 2", 1)
            self.check_refused(read_run, "w0 : " + text + " > 1", 1)
        # Long texts that are nets.
        text = "last(" + ", ".join(["999999999999"] * 4) + ")"
        text = f"last({text}, {text}, {text})"
        self.check(read_net, text, 1, ("last", *[("last", *[("rest", BIG)] * 4)] * 3))

    def test_things(self):
        for thing in [*things(), b"w0", ("work", 0), [EACH], {EACH: EACH}, 0]:
            if thing in ("0", "1", "w0") and type(thing) is str:
                self.assertTrue(is_net(read_net(thing, 1), 1))
                continue
            self.check_refused(read_net, thing, 1)
            self.check_refused(read_run, thing, 1)
            if thing not in ("0", "1"):
                self.check_refused(read_lengths, thing, 1)


class Lengths(Reading):
    def test_right(self):
        for text, wanted in [
            ("0", (O,)), ("1/2", ((1, 2),)), ("0 0 0", (O, O, O)), ("1 2 3", whole(1, 2, 3)), ("1/2 7/3 5", ((1, 2), (7, 3), (5, 1))),
            ("999999999999 1/999999999999", ((BIG, 1), (1, BIG))), ("0 1 2 3 4 5", whole(0, 1, 2, 3, 4, 5)),
        ]:
            self.check(read_lengths, text, len(wanted), wanted)
            self.assertEqual(show_lengths(wanted), text)

    def test_how_many(self):
        for count in range(1, 9):
            text = " ".join(["1/2"] * count)
            for many in range(1, 7):
                if count == many:
                    self.check(read_lengths, text, many, ((1, 2),) * many)
                else:
                    self.check_refused(read_lengths, text, many)

    def test_wrong(self):
        for word in ("", "-1", "-1/2", "-0", "+1", "01", "00", "2/4", "2/1", "0/1", "0/5", "1/0", "1/01", "01/2", "1/-2", "1 /2", "1/ 2",
                     "1//2", "/", "1/", "/2", "1/2/3", "1.5", "1,5", "a", "w0", "1000000000000", "1/1000000000000", "0000000000001",
                     "\u0661", "1\n", "\t1", "\u00b2", "1_0", "1e2", "None"):
            self.check_refused(read_lengths, word, 1)
            self.check_refused(read_lengths, f"1 {word}", 2)
            self.check_refused(read_lengths, f"{word} 1", 2)
            self.check_refused(read_lengths, f"1 {word} 3/2", 3)
        for text in ("1  2", " 1 2", "1 2 ", "1\t2", "1\n2", "1, 2", "1,2", "1\u00a02", "1;2", "(1 2)", "1 2\n"):
            self.check_refused(read_lengths, text, 2)

    def test_thrown(self):
        for _, plan, truth, _ in runs_thrown(92, 60, 6, 0, 10 ** 12):
            for lengths in (plan, truth):
                self.check(read_lengths, show_lengths(lengths), len(lengths), lengths)


class Runs(Reading):
    def test_right(self):
        self.check(read_run, EACH_RUN, 3, (("after", A, ("last", B, ("rest", 5)), ("not_before", 9, C)),
                                           ((1, 2), (2, 1), (3, 1)), whole(6, 8, 12)))
        self.check(read_run, "0 : 0 > 0", 1, (R0, (O,), (O,)))
        self.check(read_run, "w1 : 1 2 > 3/2 4", 2, (B, whole(1, 2), ((3, 2), (4, 1))))
        for net, plan, truth, _ in runs_thrown(93, 100, 6, 12):
            self.check(read_run, show_run(net, plan, truth), len(plan), (net, plan, truth))

    def test_wrong(self):
        for text in ("", " : ", " > ", " :  > ", "w0", "w0 : 1", "w0 > 1", "w0 : 1 2", "w0 > 1 : 2", "w0 : 1 : 2", "w0 > 1 > 2",
                     "w0 : 1 > 2 > 3", "w0 : 1 : 2 > 3", "w0 : 1 > 2 : 3", "w0 : w0 : 1 > 2", "w0 : 1 > 2 > ", "w0 : 1 > 2 : ",
                     "w0 : 1 > ", "w0 :  > 2", " : 1 > 2", "w0 : 1 >  2", "w0 :  1 > 2", "w0  : 1 > 2", "w0 : 1  > 2", " w0 : 1 > 2",
                     "w0 : 1 > 2 ", "w0 : 1 > 2\n", "w0: 1 > 2", "w0 :1 > 2", "w0 : 1> 2", "w0 : 1 >2", "w0:1>2", "w0 1 2", "w0 : 1 < 2",
                     "w1 : 1 > 2", "w0 : 1 1 > 2", "w0 : 1 > 2 2", "w0 : -1 > 2", "w0 : 1 > -2", "w0 : 1 > w0", "w0 : w0 > 1",
                     "last(w0) : 1 > 2", "w00 : 1 > 2", "w0 : 01 > 2", "w0 : 1 > 2/4", "w0 ; 1 > 2", "w0 : 1 - 2", "W0 : 1 > 2"):
            self.check_refused(read_run, text, 1)
        self.check(read_run, "w0 : 1 > 2", 1, (A, whole(1), whole(2)))
        for text in ("w0 : 1 > 2 3", "w0 : 1 2 > 3", "w2 : 1 2 > 3 4", "w0 : 1 2 3 > 4 5 6"):
            self.check_refused(read_run, text, 2)

    def test_the_whole_text_is_borne(self):
        # Not the part of it that is no net, no lengths.
        for text in ("w9 : 1 > 2", "w0 : x > 2", "w0 : 1 > x"):
            with self.assertRaises(NoText) as caught:
                read_run(text, 1)
            self.assertEqual(caught.exception.text, text)
        with self.assertRaises(NoText) as caught:
            read_lengths("1 2 x", 3)
        self.assertEqual(caught.exception.text, "1 2 x")
        with self.assertRaises(NoText) as caught:
            read_net("after(w0, w9)", 3)
        self.assertEqual(caught.exception.text, "after(w0, w9)")


class Spoilt(Reading):
    """Whatever is read is written as it was read; all else is refused with the whole text."""

    def check_spoilt(self, question, text, many, shown, fine):
        try:
            told = question(text, many)
        except NoText as caught:
            self.assertIs(caught.text, text)
            return 0
        self.assertTrue(fine(told))
        self.assertEqual(shown(told), text)
        return 1

    def test_nets(self):
        dice = Dice(94)
        read = sum(self.check_spoilt(read_net, other, 3, show_net, lambda told: is_net(told, 3))
                   for net in [*NETS, read_net(EACH, 3)] for other in spoilt(show_net(net), dice, 25))
        self.assertGreater(read, 50)

    def test_lengths_and_runs(self):
        dice = Dice(95)
        read = 0
        for other in spoilt("1/2 12 7/3", dice, 600):
            read += self.check_spoilt(read_lengths, other, 3, show_lengths, lambda told: len(told) == 3 and all(
                is_fraction(one) and one[0] >= 0 for one in told))
        for other in spoilt(EACH_RUN, dice, 600):
            read += self.check_spoilt(read_run, other, 3, lambda told: show_run(*told), lambda told: (
                is_net(told[0], 3) and len(told[1]) == len(told[2]) == 3))
        self.assertGreater(read, 50)

    def test_things_in_a_net(self):
        for thing in things():
            if type(thing) is str and thing not in ("0", "1", "w0"):
                self.check_refused(read_net, f"after(w0, {thing})", 2)
                self.check_refused(read_net, f"{thing}(w0, w1)", 2)


if __name__ == "__main__":
    unittest.main()
