"""Point 17: a desk, asked by lines of text."""

import copy
import inspect
import unittest

from lateshares import desk
from lateshares.alike import never_later
from lateshares.book import Book
from lateshares.desk import Desk
from lateshares.errors import NoDeed, NoLine, NoName, NoOrder, NoRun, NoText, TooMany, Twice, Unlike
from lateshares.fractions import sum_of, written
from lateshares.hours import hour
from lateshares.reading import read_lengths, read_run
from lateshares.runs import lateness, turns
from lateshares.sharing import ranges, shares
from lateshares.showing import show_lengths, show_net, show_run
from tests.anything import things
from tests.asked import Asked, runs_thrown, whole
from tests.made import A, ALIKE, B, NETS, Dice, all_runs, lengths_made, net_made, order_made

LAST = "last(w0, w1) : 2 2 0 > 5 5 1"
EACH = "after(w0, last(w1, 5), not_before(9, w2)) : 1 2 3 > 6 8 12"
MANY = "last(" + ", ".join(["first(w0, 1, w1, 2)", "first(w2, 3, 4, 5)", "first(6, 7, 8)"]) + ")"
QUESTIONS = ["shares", "lateness", "names"]
ABOUT = ["run", "share", "range", "turns"]
BIG = 10 ** 12 - 1


def state(one):
    """All that a desk tells of its book; by the order of a spare run, the order too."""
    names = [] if one.say("names") == "-" else one.say("names").split(" ")
    return [one.say(line) for line in QUESTIONS] + [one.say(f"{word} {name}") for name in names for word in ABOUT]


class Desks(Asked):
    def full(self):
        one = Desk(3)
        for line in ("put b " + LAST, "put a " + EACH, "turn 1 0 2"):
            self.assertEqual(one.say(line), "done")
        return one

    def check(self, one, line, wanted):
        """What is said; questions are said twice alike."""
        told = one.say(line)
        self.assertIs(type(told), str)
        self.assertEqual(told, wanted, line)
        if line.split(" ")[0] in (*QUESTIONS, *ABOUT, "never"):
            self.assertEqual(one.say(line), wanted)

    def check_refused(self, one, line, kind, name=None, value=None):
        """Refused with just this class, bearing this value, and nothing is changed."""
        before = state(one)
        with self.assertRaises(kind) as caught:
            one.say(line)
        self.assertIs(type(caught.exception), kind, line)
        self.assertEqual(vars(caught.exception), {name: value} if name else {}, line)
        self.assertEqual(state(one), before)
        return caught.exception


class Interface(Desks):
    def test_names_and_arguments(self):
        self.assertEqual(Desk.__module__, "lateshares.desk")
        self.assertEqual(str(inspect.signature(Desk)), "(many)")
        self.assertIn("say", vars(Desk))
        self.assertEqual(str(inspect.signature(vars(Desk)["say"])), "(self, line)")
        self.assertIs(desk.Desk, Desk)

    def test_by_names(self):
        one = Desk(many=2)
        self.assertEqual(one.say(line="names"), "-")
        self.assertEqual(one.say(line="put a w1 : 1 2 > 3 4"), "done")


class Said(Desks):
    def test_a_bare_desk(self):
        for many in range(1, 7):
            one = Desk(many)
            self.check(one, "shares", " ".join(["0"] * many))
            self.check(one, "lateness", "0")
            self.check(one, "names", "-")
            self.check_refused(one, "back", NoDeed)

    def test_put_and_asked(self):
        one = self.full()
        self.check(one, "names", "a b")
        self.check(one, "run a", EACH)
        self.check(one, "run b", LAST)
        self.check(one, "share a", "5 3 3")
        self.check(one, "share b", "0 3 0")
        self.check(one, "shares", "5 6 3")
        self.check(one, "lateness", "14")
        self.check(one, "range a", "5 to 5, 3 to 3, 3 to 3")
        self.check(one, "range b", "0 to 3, 0 to 3, 0 to 0")
        self.check(one, "turns a", "1/2 2/3")
        self.check(one, "turns b", "-")

    def test_fractions_and_below_nought(self):
        one = Desk(2)
        self.check(one, "put a first(w0, w1) : 1 5 > 5 7/2", "done")
        self.check(one, "share a", "32/11 -9/22")
        self.check(one, "turns a", "8/11")
        self.check(one, "put b after(w0, w1) : 5/2 1 > 0 1", "done")
        self.check(one, "shares", "9/22 -9/22")
        self.check(one, "lateness", "0")
        self.check(one, "range b", "-5/2 to -5/2, 0 to 0")

    def test_take(self):
        one = self.full()
        self.check(one, "take a", "done")
        self.check(one, "names", "b")
        self.check(one, "shares", "0 3 0")
        self.check_refused(one, "take a", NoRun, "name", "a")
        self.check(one, "take b", "done")
        self.check(one, "names", "-")
        self.check(one, "shares", "0 0 0")
        self.check(one, "put a " + LAST, "done")

    def test_exchange(self):
        one = self.full()
        self.check(one, "exchange b last(w1, w0, w1)", "done")
        self.check(one, "run b", "last(w1, w0, w1) : 2 2 0 > 5 5 1")
        self.check(one, "share b", "0 3 0")
        error = None
        with self.assertRaises(Unlike) as caught:
            one.say("exchange b first(w1, w0)")
        error = caught.exception
        self.assertEqual(list(vars(error)), ["lengths"])
        self.assertNotEqual(hour(("last", A, B), error.lengths), hour(("first", A, B), error.lengths))
        self.check(one, "run b", "last(w1, w0, w1) : 2 2 0 > 5 5 1")

    def test_turn(self):
        one = self.full()
        self.check(one, "share b", "0 3 0")
        self.check(one, "turn 0 2 1", "done")
        self.check(one, "share b", "3 0 0")
        self.check(one, "turn 0 2 1", "done")
        self.check(one, "back", "done")
        self.check(one, "share b", "3 0 0")
        self.check(one, "back", "done")
        self.check(one, "share b", "0 3 0")
        self.check(Desk(1), "turn 0", "done")
        self.check(Desk(6), "turn 5 4 3 2 1 0", "done")

    def test_back(self):
        one = Desk(3)
        states = [state(one)]
        for line in ("put b " + LAST, "put a " + EACH, "turn 1 0 2", "exchange b first(last(w1, w0), last(w0, w1))", "take a",
                     "turn 1 0 2", "put a w2 : 1 1 1 > 2 2 2", "take b"):
            self.check(one, line, "done")
            states.append(state(one))
        for wanted in states[-2::-1]:
            self.check(one, "back", "done")
            self.assertEqual(state(one), wanted)
        self.check_refused(one, "back", NoDeed)

    def test_never(self):
        one = Desk(2)
        self.check(one, "never w0 > last(w0, w1)", "never")
        self.check(one, "never w0 > w0", "never")
        self.check(one, "never 1 > 2", "never")
        self.check(one, "never 2 > 1", "later " + show_lengths(never_later(("rest", 2), ("rest", 1), 2)[1]))
        for net in NETS:
            for other in NETS[::6]:
                word, shown = never_later(net, other, 3)
                line = f"never {show_net(net)} > {show_net(other)}"
                self.check(Desk(3), line, "never" if word == "never" else "later " + show_lengths(shown))
                if word == "later":
                    lengths = read_lengths(Desk(3).say(line)[len("later "):], 3)
                    self.assertEqual(lengths, shown)

    def test_big_numbers(self):
        one = Desk(2)
        self.check(one, f"put abcdefghijkl last(w0, {BIG}) : {BIG} 1/{BIG} > 0 {BIG}/2", "done")
        self.check(one, "run abcdefghijkl", f"last(w0, {BIG}) : {BIG} 1/{BIG} > 0 {BIG}/2")

    def test_names_like_words(self):
        one = Desk(1)
        for name in ("put", "back", "names", "turn", "never", "run"):
            self.check(one, f"put {name} w0 : 1 > 2", "done")
        self.check(one, "names", "back names never put run turn")
        self.check(one, "run run", "w0 : 1 > 2")
        self.check(one, "take back", "done")
        self.check(one, "names", "names never put run turn")


class Lines(Desks):
    def test_no_line_by_its_first_word(self):
        one = self.full()
        for line in ("", " ", "  ", "puts", "pu", "Put a " + LAST, "PUT a " + LAST, "Back", "BACK", "Shares", "Names", "Never w0 > w0",
                     "share\ta", "put\ta " + LAST, " put a " + LAST, " back", " names", "\nback", "back\n", "names\n", "shares,",
                     "lateness.", "turn\n0 1 2", "take\na", "len", "deeds", "order", "is a", "w0", "w0 : 1 1 1 > 2 2 2", "done", "-", "never,",
                     "exchanges a w0", "ranges a", "turned 0 1 2", "runs", "undo", "quit", "help", "lateness\t", "shown a", "read a",
                     "a" * 4000, " " * 4000, "\u0440ut a " + LAST, "paper a", "say names", "put_a", "taking a", "__init__", "__class__ a"):
            self.check_refused(one, line, NoLine, "line", line)

    def test_no_line_by_anything_behind(self):
        one = self.full()
        for word in ("back", "shares", "lateness", "names"):
            for behind in (" ", "  ", " a", " 0", " b", " names", " all of it", " -", " 1 2 3", "\n", " \n"):
                self.check_refused(one, word + behind, NoLine, "line", word + behind)
        self.check_refused(Desk(1), "back ", NoLine, "line", "back ")

    def test_no_text_at_all(self):
        one = self.full()
        for thing in [*things(), b"names", ["names"], ("names",), {"names": 1}, ("put", "c", A, whole(1), whole(2))]:
            before = copy.deepcopy(thing)
            with self.assertRaises(NoLine) as caught:
                one.say(thing)
            self.assertIs(type(caught.exception), NoLine)
            self.assertIs(caught.exception.line, thing)
            self.assertEqual(repr(thing), repr(before))
        self.assertEqual(state(one), state(self.full()))

    def test_words_alone(self):
        one = self.full()
        for line in ("put", "put ", "put  ", "exchange", "exchange ", "turn", "turn ", "never", "never ", "never  > ", "never  > w0"):
            self.check_refused(one, line, NoText, "text", "")
        self.check_refused(one, "put c", NoText, "text", "")
        self.check_refused(one, "put c ", NoText, "text", "")
        self.check_refused(one, "exchange b", NoText, "text", "")
        self.check_refused(one, "exchange b ", NoText, "text", "")
        for word in ("take", *ABOUT):
            self.check_refused(one, word, NoRun, "name", "")
            self.check_refused(one, word + " ", NoRun, "name", "")


class Put(Desks):
    def test_no_text(self):
        one = self.full()
        for text in ("w0", "w0 : 1 1 1", "w0 : 1 1 > 2 2 2", "w3 : 1 1 1 > 2 2 2", "w0 : 1 1 1 > 2 2 -2", " w0 : 1 1 1 > 2 2 2",
                     "w0 : 1 1 1 > 2 2 2 ", "w0 : 1 1 1 > 2 2 2 > 3", "w0: 1 1 1 > 2 2 2", "last(w0) : 1 1 1 > 2 2 2", "-", "c w0"):
            # The text is refused ahead of the name, whatever that is.
            for name in ("c", "a", "C", "", "abcdefghijklm", "w0", "1"):
                self.check_refused(one, f"put {name} {text}", NoText, "text", text)

    def test_two_blanks(self):
        one = self.full()
        self.check_refused(one, "put  c " + LAST, NoText, "text", "c " + LAST)
        self.check_refused(one, "put c  " + LAST, NoText, "text", " " + LAST)
        self.check_refused(one, "put " + LAST, NoText, "text", LAST.partition(" ")[2])

    def test_no_name(self):
        one = self.full()
        for name in ("C", "cC", "1", "c1", "abcdefghijklm", "c-", "c,", "c\n", "\u00e4", "w0", "_"):
            self.check_refused(one, f"put {name} {LAST}", NoName, "name", name)
        self.check_refused(one, "put  " + LAST, NoName, "name", "")

    def test_twice(self):
        one = self.full()
        for name in ("a", "b"):
            self.check_refused(one, f"put {name} {LAST}", Twice, "name", name)


class About(Desks):
    def test_no_run(self):
        one = self.full()
        for word in ("take", *ABOUT):
            for name in ("c", "A", "ab", "a ", " a", "a b", "a a", "-", "a\n", "a,", "a " + LAST, "w0", "0"):
                self.check_refused(one, f"{word} {name}", NoRun, "name", name)
        for name in ("c", "A", "", "ab"):
            self.check_refused(one, f"exchange {name} w0", NoRun, "name", name)

    def test_exchange_refused(self):
        one = self.full()
        for name in ("b", "c", "C", ""):
            for text in ("w3", "last(w0)", "w0 ", " w0", "w0 : 1 1 1 > 2 2 2", "1 2", "first(w0,w1)", "-"):
                self.check_refused(one, f"exchange {name} {text}", NoText, "text", text)
        self.check_refused(one, "exchange  b w0", NoText, "text", "b w0")
        self.check_refused(one, f"exchange b {MANY}", TooMany)
        self.check_refused(one, f"exchange b after({MANY}, w0)", TooMany)
        self.check(one, f"put c {MANY} : 1 1 1 > 2 2 2", "done")
        self.check_refused(one, "exchange c w0", TooMany)
        self.check_refused(one, f"exchange c {MANY}", TooMany)
        self.check_refused(one, f"exchange d {MANY}", NoRun, "name", "d")

    def test_turn_refused(self):
        one = self.full()
        for text in ("", " ", "0 1 2 ", " 0 1 2", "0  1 2", "0,1,2", "0, 1, 2", "a", "0 1 b", "-1 0 1", "+0 1 2", "00 1 2", "01 0 2", "0 1 2.0",
                     "1/2 0 1", "0/1 1 2", "w0 w1 w2", "1000000000000 0 1", "0 1\t2", "0 1 2\n", "\u0660 1 2", "(0, 1, 2)", "None", "0 1 \u00b2"):
            self.check_refused(one, "turn " + text, NoText, "text", text)
        for numbers in ((0,), (0, 1), (0, 1, 1), (0, 1, 3), (1, 2, 3), (0, 1, 2, 3), (2, 1, 0, 0), (BIG, 0, 1), (0, 0, 0), (5,)):
            line = "turn " + " ".join(str(n) for n in numbers)
            error = self.check_refused(one, line, NoOrder, "thing", numbers)
            self.assertEqual([type(n) for n in error.thing], [int] * len(numbers))
            self.assertIs(type(error.thing), tuple)

    def test_never_refused(self):
        one = self.full()
        for text, wrong in (("w0", ""), ("w0 > ", ""), ("w0 >", "w0 >"), ("w0 >w1", "w0 >w1"), ("w0> w1", "w0> w1"), (" > w0", ""),
                            ("w0 > w1 > w2", "w1 > w2"), ("w0 > w1 > ", "w1 > "), ("w0 >  w1", " w1"), ("w0  > w1", "w0 "),
                            (" w0 > w1", " w0"), ("w0 > w1 ", "w1 "), ("w3 > w1", "w3"), ("w0 > w3", "w3"), ("w3 > w4", "w3"),
                            ("x > y", "x"), ("w0 w1", "w0 w1"), ("w0, w1", "w0, w1"), ("last(w0) > 1", "last(w0)"), ("1 > last(1)", "last(1)"),
                            (f"{MANY} > x", "x"), (f"x > {MANY}", "x"), (f"{MANY}", ""), ("w0 : 1 1 1 > 2 2 2", "w0 : 1 1 1")):
            self.check_refused(one, "never " + text, NoText, "text", wrong)
        # MANY has too many greatests, but not leasts.
        self.check_refused(one, f"never w0 > {MANY}", TooMany)
        self.check_refused(one, f"never {MANY} > {MANY}", TooMany)
        self.assertEqual(one.say(f"never {MANY} > 0")[:6], "later ")


class Sums(Desks):
    """Point 3 (g): the desk answers as all the functions tell."""

    def check_answers(self, one, runs, order, many):
        names = sorted(runs)
        self.check(one, "names", " ".join(names) or "-")
        rows = [shares(*runs[name], order) for name in names]
        self.check(one, "shares", show_lengths([sum_of(tuple(row[work] for row in rows)) for work in range(many)]))
        self.check(one, "lateness", written(sum_of(tuple(lateness(*runs[name]) for name in names))))
        for name, row in zip(names, rows):
            self.check(one, f"run {name}", show_run(*runs[name]))
            self.assertEqual(read_run(one.say(f"run {name}"), many), runs[name])
            self.check(one, f"share {name}", show_lengths(row))
            told = [f"{written(least)} to {written(greatest)}" for least, greatest in ranges(*runs[name])]
            self.check(one, f"range {name}", ", ".join(told))
            self.check(one, f"turns {name}", show_lengths(turns(*runs[name])) or "-")

    def test_many_runs(self):
        for k, (net, plan, truth, order) in enumerate(runs_thrown(101, 40, 6, 8, 4)):
            one = Desk(len(plan))
            one.say("turn " + " ".join(str(work) for work in order))
            one.say(f"put a {show_run(net, plan, truth)}")
            one.say(f"put b {show_run(net, truth, plan)}")
            self.check_answers(one, {"a": (net, plan, truth), "b": (net, truth, plan)}, order, len(plan))
            self.check(one, "lateness", "0")
            self.check(one, "shares", " ".join(["0"] * len(plan)))

    def test_exchanged_for_nets_alike(self):
        for k, (net, other) in enumerate(ALIKE):
            plan, truth = all_runs(3, 0, 1, 3)[11 * k]
            one = Desk(3)
            one.say(f"put a {show_run(net, plan, truth)}")
            self.check(one, f"exchange a {show_net(other)}", "done")
            self.check_answers(one, {"a": (other, plan, truth)}, (0, 1, 2), 3)

    def test_deeds_thrown(self):
        dice = Dice(102)
        for _ in range(4):
            one, beside = Desk(3), Book(3)
            stand = [({}, (0, 1, 2))]
            for _ in range(40):
                runs, order = stand[-1]
                word = dice.one_of(["put", "put", "take", "turn", "back"])
                if word == "put":
                    name = dice.one_of("abcd")
                    run = net_made(dice, 3, dice.below(5)), lengths_made(dice, 3, 5, 2), lengths_made(dice, 3, 5)
                    if name in runs:
                        self.check_refused(one, f"put {name} {show_run(*run)}", Twice, "name", name)
                        continue
                    self.check(one, f"put {name} {show_run(*run)}", "done")
                    beside.put(name, *run)
                    stand.append(({**runs, name: run}, order))
                elif word == "turn":
                    order = order_made(dice, 3)
                    self.check(one, "turn " + " ".join(str(work) for work in order), "done")
                    beside.turn(order)
                    stand.append((runs, order))
                elif word == "take" and runs:
                    name = dice.one_of(sorted(runs))
                    self.check(one, f"take {name}", "done")
                    beside.take(name)
                    stand.append(({key: run for key, run in runs.items() if key != name}, order))
                elif word == "back" and len(stand) > 1:
                    self.check(one, "back", "done")
                    beside.back()
                    stand.pop()
                self.check_answers(one, *stand[-1], 3)
                self.check(one, "shares", show_lengths(beside.shares()))

    def test_one_desk_leaves_another_one_as_it_is(self):
        one, other = self.full(), self.full()
        before = state(other)
        one.say("take a")
        one.say("turn 2 1 0")
        self.assertEqual(state(other), before)


if __name__ == "__main__":
    unittest.main()
