"""Point 15: a book of runs, its deeds and its refusals."""

import copy
import inspect
import unittest
from itertools import permutations

from lateshares import book
from lateshares.alike import are_alike
from lateshares.book import Book
from lateshares.errors import NoDeed, NoLengths, NoName, NoNet, NoOrder, NoRun, TooMany, Twice, Unlike
from lateshares.fractions import is_fraction, sum_of
from lateshares.hours import hour
from lateshares.nets import is_net
from lateshares.runs import lateness
from lateshares.sharing import shares
from tests.anything import deep, things, told_of
from tests.asked import Asked, beside, whole
from tests.made import A, ALIKE, B, C, NETS, R0, R1, R2, Dice, lengths_made, net_made, order_made
from tests.trial import pair, real

O = (0, 1)
BIG = 10 ** 12 - 1
PLAN, TRUTH = whole(1, 1, 2), whole(4, 4, 1)
LAST, FIRST, AFTER = ("last", A, B), ("first", A, C), ("after", A, ("last", B, C))
# Too many leasts alone; too many greatests alone.
THREES = [[("rest", 3 * k), ("rest", 3 * k + 1), ("rest", 3 * k + 2)] for k in range(3)]
WIDE = ("first", *[("last", *some) for some in THREES])
HIGH = ("last", *[("first", *some) for some in THREES])
NO_NAMES = ["", "A", "aB", "a b", " a", "a ", "a1", "a-b", "a_b", "a.", "abcdefghijklm", "\u00e4", "a\u00e9", "\u03b1", "\n", "a\n",
            "\u00df", "a" * 13, "a" * 100, "ab,c", "w0", "\u0430", "put a"]
NAMES = ["a", "z", "ab", "put", "back", "abcdefghijkl", "zzzzzzzzzzzz"]


def state(one):
    """All that a book tells."""
    return (one.names(), one.order(), one.deeds(), len(one), one.shares(), one.lateness(),
            tuple(one.run(name) for name in one.names()))


class Books(Asked):
    def full(self):
        """A book of three works with three runs."""
        one = Book(3)
        for name, net in (("b", LAST), ("a", FIRST), ("c", AFTER)):
            one.put(name, net, PLAN, TRUTH)
        return one

    def refuses(self, kind, kept, one, method, *handed):
        """Refused with just this class, bearing the very thing; nothing is changed by it."""
        before = state(one)
        handed_in = copy.deepcopy(handed)
        with self.assertRaises(kind) as caught:
            getattr(one, method)(*handed)
        self.assertIs(type(caught.exception), kind, handed)
        if kept is None:
            self.assertEqual(vars(caught.exception), {})
        else:
            name, thing = kept
            self.assertEqual(list(vars(caught.exception)), [name])
            self.assertIs(getattr(caught.exception, name), thing)
        self.assertEqual(repr(handed), repr(handed_in))
        self.assertEqual(state(one), before)

    def check_sums(self, one):
        """Shares and lateness are the sums over the runs that stand."""
        runs = [one.run(name) for name in one.names()]
        rows = [shares(*run, one.order()) for run in runs]
        many = len(one.order())
        told = self.ask(one.shares)
        self.assertEqual(told, tuple(sum_of(tuple(row[work] for row in rows)) for work in range(many)))
        self.assertEqual(self.ask(one.lateness), sum_of(tuple(lateness(*run) for run in runs)))
        self.assertEqual(sum_of(told), one.lateness())
        self.assertTrue(is_fraction(one.lateness()) and all(is_fraction(share) for share in told))


class Interface(Books):
    def test_names_and_arguments(self):
        self.assertEqual(Book.__module__, "lateshares.book")
        self.assertEqual(str(inspect.signature(Book)), "(many, *, order=None)")
        wanted = {
            "put": "(self, name, net, plan, truth)", "take": "(self, name)", "exchange": "(self, name, net)",
            "turn": "(self, order)", "back": "(self)", "shares": "(self)", "lateness": "(self)", "names": "(self)",
            "run": "(self, name)", "order": "(self)", "deeds": "(self)", "__eq__": "(self, other)", "__len__": "(self)",
        }
        for name, arguments in wanted.items():
            self.assertIn(name, vars(Book))
            self.assertEqual(str(inspect.signature(vars(Book)[name])), arguments, name)
        self.assertIs(book.Book, Book)

    def test_by_names(self):
        one = Book(many=2, order=(1, 0))
        one.put(truth=whole(3, 3), plan=whole(1, 1), net=LAST, name="a")
        self.assertEqual(one.run(name="a"), (LAST, whole(1, 1), whole(3, 3)))
        self.assertEqual(one.shares(), whole(0, 2))
        one.exchange(net=("last", B, A), name="a")
        one.turn(order=(0, 1))
        self.assertEqual(one.shares(), whole(2, 0))
        one.take(name="a")
        self.assertEqual(one.deeds(), 4)

    def test_the_order_by_its_name_alone(self):
        with self.assertRaises(TypeError):
            Book(2, (0, 1))


class Bare(Books):
    def test_without_an_order(self):
        for many in range(1, 7):
            for one in (Book(many), Book(many, order=None), Book(many=many, order=tuple(range(many)))):
                self.assertEqual(state(one), ((), tuple(range(many)), 0, 0, (O,) * many, O, ()))

    def test_with_an_order(self):
        for many in range(1, 5):
            for order in permutations(range(many)):
                self.assertEqual(Book(many, order=order).order(), order)
        self.assertEqual(Book(6, order=(5, 3, 1, 0, 2, 4)).order(), (5, 3, 1, 0, 2, 4))

    def test_no_order(self):
        wrong = [(), (0,), (0, 1), (0, 1, 1), (0, 0, 0), (1, 2, 3), (0, 1, 3), (-1, 0, 1), (0, 1, 2, 3), (0, 1, 2, 2), [0, 1, 2],
                 (0, 1, True), (False, 1, 2), (0, True, 2), ("0", "1", "2"), "012", (0, 1, (2,)), (0, 1, None), ((0, 1, 2),),
                 {0: 0, 1: 1, 2: 2}, 0, 3, "", False, True, ((0, 1), (1, 1), (2, 1)), (0, 1, BIG), deep(tuple, 0), *things()]
        for thing in wrong:
            if thing is None:
                continue
            handed = copy.deepcopy(thing)
            with self.assertRaises(NoOrder) as caught:
                Book(3, order=thing)
            self.assertIs(type(caught.exception), NoOrder)
            self.assertIs(caught.exception.thing, thing)
            self.assertEqual(repr(thing), repr(handed))
            self.refuses(NoOrder, ("thing", thing), self.full(), "turn", thing)
        self.refuses(NoOrder, ("thing", None), self.full(), "turn", None)
        self.assertEqual(Book(1, order=(0,)).order(), (0,))
        for thing in [(1,), (False,), (), [0], (0, 0)]:
            with self.assertRaises(NoOrder):
                Book(1, order=thing)

    def test_no_deed(self):
        for one in (Book(1), Book(3, order=(2, 1, 0))):
            self.refuses(NoDeed, None, one, "back")


class Put(Books):
    def test_names(self):
        one = Book(3)
        for k, name in enumerate(NAMES):
            self.assertIsNone(one.put(name, NETS[k], PLAN, TRUTH))
            self.assertEqual(one.run(name), (NETS[k], PLAN, TRUTH))
            self.assertEqual((len(one), one.deeds()), (k + 1, k + 1))
        self.assertEqual(one.names(), tuple(sorted(NAMES)))
        self.check_sums(one)

    def test_no_name(self):
        for name in [*NO_NAMES, *things()]:
            if name not in ("a", "work", "rest"):
                self.refuses(NoName, ("name", name), self.full(), "put", name, LAST, PLAN, TRUTH)
                self.refuses(NoName, ("name", name), Book(3), "put", name, None, [], 0)
        for name in ("work", "rest"):
            Book(1).put(name, A, whole(1), whole(1))

    def test_twice(self):
        one = self.full()
        for name in ("a", "b", "c"):
            self.refuses(Twice, ("name", name), one, "put", name, LAST, PLAN, TRUTH)
            self.refuses(Twice, ("name", name), one, "put", name, None, None, None)
        one.take("b")
        self.assertIsNone(one.put("b", FIRST, TRUTH, PLAN))
        self.assertEqual(one.run("b"), (FIRST, TRUTH, PLAN))
        self.refuses(Twice, ("name", "b"), one, "put", "b", LAST, PLAN, TRUTH)

    def test_no_net(self):
        wrong = [("work", 3), ("work", -1), ("work", True), ["work", 0], ("last", A), ("last", A, B, C, A, B), ("rest", -1), ("work",),
                 ("not_before", A, 1), ("not_before", True, A), ("last", A, ("work", 3)), "w0", deep(tuple, A), *things()]
        net = A
        for _ in range(13):
            net = ("after", net, B)
        for thing in [*wrong, net]:
            one = self.full()
            self.refuses(NoNet, ("net", thing), one, "put", "d", thing, PLAN, TRUTH)
            self.refuses(NoNet, ("net", thing), one, "put", "d", thing, None, [])
            self.refuses(NoNet, ("net", thing), one, "exchange", "a", thing)
        one.put("d", net[1], PLAN, TRUTH)
        self.refuses(NoNet, ("net", C), Book(2), "put", "d", C, PLAN, TRUTH)

    def test_no_lengths(self):
        wrong = [(), whole(1), whole(1, 2), whole(1, 2, 3, 4), (1, 2, 3), [(1, 1), (2, 1), (3, 1)], ((1, 1), (2, 1), [3, 1]),
                 ((1, 1), (2, 1), (-3, 1)), ((-1, 7), O, O), ((2, 4), O, O), ((0, 2), O, O), ((True, 1), O, O), (O, O, (1, True)),
                 (O, O, None), "1 2 3", ((1, 0), O, O), ((1, -1), O, O), *things()]
        for thing in wrong:
            one = self.full()
            # An equal thing, but another one: the very one that is handed in is borne.
            other = copy.deepcopy(thing)
            self.refuses(NoLengths, ("lengths", thing), one, "put", "d", LAST, thing, TRUTH)
            self.refuses(NoLengths, ("lengths", thing), one, "put", "d", LAST, thing, other)
            self.refuses(NoLengths, ("lengths", thing), one, "put", "d", LAST, PLAN, thing)
        Book(3).put("d", LAST, (O, (BIG, BIG - 1), (1, BIG)), whole(BIG, 0, BIG))

    def test_the_first_told_goes(self):
        one = self.full()
        self.refuses(NoName, ("name", "A"), one, "put", "A", "net", "plan", "truth")
        self.refuses(Twice, ("name", "a"), one, "put", "a", "net", "plan", "truth")
        net, plan, truth = ["net"], ["lengths"], ["lengths"]
        self.refuses(NoNet, ("net", net), one, "put", "d", net, plan, truth)
        self.refuses(NoLengths, ("lengths", plan), one, "put", "d", A, plan, truth)
        self.refuses(NoLengths, ("lengths", truth), one, "put", "d", A, PLAN, truth)


class Take(Books):
    def test_taken(self):
        one = self.full()
        self.assertIsNone(one.take("a"))
        self.assertEqual((one.names(), len(one), one.deeds()), (("b", "c"), 2, 4))
        self.refuses(NoRun, ("name", "a"), one, "take", "a")
        self.check_sums(one)
        one.take("c")
        one.take("b")
        self.assertEqual((one.names(), len(one), one.deeds(), one.shares(), one.lateness()), ((), 0, 6, (O, O, O), O))

    def test_no_run(self):
        wrong = [name for name in [*NO_NAMES, "d", "aa", "ab", *things()] if name != "a"]
        for name in wrong:
            one = self.full()
            for method, handed in (("take", ()), ("run", ()), ("exchange", (LAST,)), ("exchange", (None,))):
                self.refuses(NoRun, ("name", name), one, method, name, *handed)
        for name in ("a", "b", None):
            self.refuses(NoRun, ("name", name), Book(3), "take", name)
            self.refuses(NoRun, ("name", name), Book(3), "run", name)
            self.refuses(NoRun, ("name", name), Book(3), "exchange", name, LAST)


class Exchange(Books):
    def test_nets_drawn_otherwise(self):
        for one_net, other in ALIKE:
            one = self.full()
            one.put("d", one_net, PLAN, TRUTH)
            before = one.shares(), one.lateness()
            self.assertIsNone(one.exchange("d", other))
            self.assertEqual(one.run("d"), (other, PLAN, TRUTH))
            self.assertEqual((one.shares(), one.lateness(), one.deeds(), len(one)), (*before, 5, 4))
            one.exchange("d", one_net)
            one.exchange("d", one_net)
            self.assertEqual((one.run("d"), one.deeds()), ((one_net, PLAN, TRUTH), 7))

    def test_a_run_keeps_its_lengths(self):
        one = self.full()
        one.put("d", A, TRUTH, PLAN)
        one.exchange("d", ("last", A, R0))
        self.assertEqual(one.run("d"), (("last", A, R0), TRUTH, PLAN))
        self.assertEqual(one.run("a"), (FIRST, PLAN, TRUTH))

    def test_unlike(self):
        found = 0
        for k, net in enumerate(NETS):
            for other in NETS[k % 3::3]:
                if are_alike(net, other, 3):
                    continue
                one = Book(3)
                one.put("d", net, PLAN, TRUTH)
                before = state(one)
                with self.assertRaises(Unlike) as caught:
                    one.exchange("d", other)
                self.assertIs(type(caught.exception), Unlike)
                lengths = caught.exception.lengths
                self.assertEqual(list(vars(caught.exception)), ["lengths"])
                self.assertTrue(type(lengths) is tuple and len(lengths) == 3)
                self.assertTrue(all(is_fraction(n) and n[0] >= 0 for n in lengths))
                self.assertNotEqual(hour(net, lengths), hour(other, lengths))
                self.assertEqual(state(one), before)
                found += 1
        self.assertGreater(found, 200)

    def test_unlike_one_way_alone(self):
        # Never later, but earlier; never earlier, but later.
        for net, other in ((A, ("last", A, B)), (("last", A, B), A), (R1, R2), (R2, R1)):
            one = Book(2)
            one.put("d", net, whole(1, 2), whole(3, 3))
            with self.assertRaises(Unlike) as caught:
                one.exchange("d", other)
            self.assertNotEqual(hour(net, caught.exception.lengths), hour(other, caught.exception.lengths))

    def test_too_many(self):
        for wide in (WIDE, HIGH, beside("last", [("rest", n) for n in range(25)])):
            one = Book(3)
            one.put("d", wide, PLAN, TRUTH)
            one.put("e", A, PLAN, TRUTH)
            # Of the net that the run has, of the one that it would get, of both; whether they are alike or not.
            for other in (wide, A, R0, ("rest", 99)):
                self.refuses(TooMany, None, one, "exchange", "d", other)
            self.refuses(TooMany, None, one, "exchange", "e", wide)
            self.refuses(TooMany, None, one, "exchange", "e", ("after", A, wide))
            self.refuses(NoNet, ("net", None), one, "exchange", "d", None)
            self.refuses(NoRun, ("name", "f"), one, "exchange", "f", wide)

    def test_the_first_told_goes(self):
        one = self.full()
        net = ["net"]
        self.refuses(NoRun, ("name", "d"), one, "exchange", "d", net)
        self.refuses(NoNet, ("net", net), one, "exchange", "a", net)


class Turn(Books):
    def test_orders(self):
        one = self.full()
        for k, order in enumerate(permutations(range(3))):
            self.assertIsNone(one.turn(order))
            self.assertEqual((one.order(), one.deeds()), (order, 4 + k))
            self.check_sums(one)

    def test_shares_by_the_order(self):
        one = Book(2)
        one.put("a", LAST, whole(2, 2), whole(5, 5))
        self.assertEqual(one.shares(), whole(3, 0))
        one.turn((1, 0))
        self.assertEqual(one.shares(), whole(0, 3))
        one.put("b", ("first", A, B), whole(2, 2), whole(4, 4))
        self.assertEqual(one.shares(), whole(2, 3))
        self.assertEqual(one.lateness(), (5, 1))

    def test_to_the_order_that_it_has(self):
        one = Book(3, order=(1, 0, 2))
        self.assertIsNone(one.turn((1, 0, 2)))
        self.assertEqual((one.order(), one.deeds()), ((1, 0, 2), 1))
        self.assertIsNone(one.back())
        self.assertEqual((one.order(), one.deeds()), ((1, 0, 2), 0))


class Back(Books):
    def test_through_all_deeds(self):
        one = Book(3, order=(2, 0, 1))
        deeds = [
            ("put", "b", LAST, PLAN, TRUTH), ("put", "a", FIRST, TRUTH, PLAN), ("turn", (0, 1, 2)), ("exchange", "b", ("last", B, A)),
            ("take", "a"), ("put", "a", AFTER, PLAN, PLAN), ("turn", (0, 1, 2)), ("take", "b"), ("turn", (1, 2, 0)),
            ("exchange", "a", ("after", ("last", C, B), A)), ("take", "a"), ("put", "a", LAST, PLAN, TRUTH),
        ]
        states = [state(one)]
        for word, *handed in deeds:
            self.assertIsNone(getattr(one, word)(*handed))
            states.append(state(one))
            self.assertEqual(one.deeds(), len(states) - 1)
            self.check_sums(one)
        for wanted in states[-2::-1]:
            self.assertIsNone(one.back())
            self.assertEqual(state(one), wanted)
        self.refuses(NoDeed, None, one, "back")
        self.assertEqual(one, Book(3, order=(2, 0, 1)))

    def test_back_and_on(self):
        one = self.full()
        one.back()
        one.back()
        self.assertEqual((one.names(), one.deeds()), (("b",), 1))
        one.put("a", AFTER, TRUTH, PLAN)
        self.assertEqual((one.run("a"), one.deeds()), ((AFTER, TRUTH, PLAN), 2))
        one.back()
        self.assertEqual((one.names(), one.deeds()), (("b",), 1))
        one.back()
        self.refuses(NoDeed, None, one, "back")

    def test_what_is_refused_is_no_deed(self):
        one = self.full()
        for method, handed in (("put", ("a", A, PLAN, TRUTH)), ("take", ("d",)), ("exchange", ("a", R1)), ("turn", (None,))):
            with self.assertRaises((ValueError, LookupError)):
                getattr(one, method)(*handed)
        one.back()
        self.assertEqual(one.names(), ("a", "b"))


class Like(Books):
    def test_the_same_runs(self):
        one = self.full()
        other = Book(3, order=(0, 2, 1))
        for name, net in (("c", AFTER), ("b", ("last", B, A)), ("d", A), ("a", FIRST)):
            other.put(name, net, PLAN, TRUTH)
        self.assertFalse(one == other)
        other.exchange("b", LAST)
        self.assertFalse(one == other)
        other.take("d")
        self.assertTrue(one != other)
        other.turn((0, 1, 2))
        self.assertTrue(one == other)
        self.assertFalse(one != other)
        self.assertNotEqual(one.deeds(), other.deeds())
        self.assertTrue(other == one)
        self.assertTrue(one == one)
        other.back()
        self.assertFalse(one == other)
        self.assertTrue(one != other)

    def test_one_thing_otherwise(self):
        wanted = self.full()
        runs = [("b", LAST, PLAN, TRUTH), ("a", FIRST, PLAN, TRUTH), ("c", AFTER, PLAN, TRUTH)]
        changed = [
            [*runs[:2], ("d", *runs[2][1:])], runs[:2], [*runs, ("d", A, PLAN, TRUTH)], [*runs[:2], ("c", LAST, PLAN, TRUTH)],
            [*runs[:2], ("c", AFTER, TRUTH, TRUTH)], [*runs[:2], ("c", AFTER, PLAN, PLAN)], [("b", ("last", B, A), PLAN, TRUTH), *runs[1:]],
            [("a", LAST, PLAN, TRUTH), ("b", FIRST, PLAN, TRUTH), runs[2]], [],
        ]
        for some in changed:
            one = Book(3)
            for run in some:
                one.put(*run)
            self.assertFalse(one == wanted)
            self.assertTrue(wanted != one)
        one = Book(3, order=(0, 2, 1))
        for run in runs:
            one.put(*run)
        self.assertFalse(one == wanted)
        one.turn((0, 1, 2))
        self.assertTrue(one == wanted)

    def test_as_many_works(self):
        for many in range(1, 7):
            for other in range(1, 7):
                self.assertIs(Book(many) == Book(other), many == other)
                self.assertIs(Book(many) != Book(other), many != other)
        self.assertTrue(Book(3, order=(0, 1, 2)) == Book(3))

    def test_nothing_else(self):
        for one in (Book(3), self.full()):
            for thing in [*things(), one.names(), one.order(), one._runs, Book, object(), state(one)]:
                self.assertIs(one == thing, False)
                self.assertIs(one != thing, True)
                self.assertIs(thing == one, False)

    def test_the_truth_of_a_likeness(self):
        self.assertIs(Book(2) == Book(2), True)
        self.assertIs(Book(2) != Book(2), False)


class Apart(Books):
    def test_one_book_leaves_another_one_as_it_is(self):
        one, other = self.full(), self.full()
        before = state(other)
        one.take("a")
        one.turn((2, 1, 0))
        one.put("d", A, PLAN, TRUTH)
        one.exchange("b", ("last", B, A))
        self.assertEqual(state(other), before)
        one.back()
        other.back()
        self.assertEqual((one.deeds(), other.deeds()), (6, 2))
        self.assertEqual(state(Book(3)), ((), (0, 1, 2), 0, 0, (O, O, O), O, ()))

    def test_what_is_handed_in_and_told_stays(self):
        one = Book(3, order=(1, 0, 2))
        handed = ("after", A, B), PLAN, TRUTH
        before = repr(handed)
        one.put("a", *handed)
        told = one.run("a"), one.names(), one.order(), one.shares(), one.lateness()
        kept = repr(told)
        one.put("b", *handed)
        one.turn((2, 1, 0))
        one.take("a")
        self.assertEqual((repr(handed), repr(told)), (before, kept))
        for thing in told:
            self.assertIs(type(thing), tuple)

    def test_questions_change_nothing(self):
        one = self.full()
        before = state(one)
        for question in (one.names, one.order, one.deeds, one.shares, one.lateness):
            self.ask(question)
        self.ask(one.run, "a")
        self.assertIs(told_of(self, lambda thing: one == thing, 0), False)
        self.assertEqual(state(one), before)
        self.assertEqual(one, self.full())


class Sums(Books):
    """Point 3 (g)."""

    def test_all_runs(self):
        one = Book(3)
        for k, net in enumerate(NETS):
            name = "abcdefghijklmnopqrstuvwxyz"[k % 26] * (1 + k // 26)
            one.put(name, net, lengths_made(Dice(k), 3, 6, 3), lengths_made(Dice(k + 99), 3, 6, 2))
            self.check_sums(one)
        self.assertEqual(len(one), len(NETS))

    def test_sixty_runs_of_six_works(self):
        dice = Dice(71)
        one = Book(6, order=order_made(dice, 6))
        for k in range(60):
            name = "".join(dice.one_of("abcdefghijklmnopqrstuvwxyz") for _ in range(12))
            one.put(name, net_made(dice, 6, k % 13), lengths_made(dice, 6, 9, 4), lengths_made(dice, 6, 9, 5))
        self.assertEqual((len(one), one.deeds()), (60, 60))
        self.check_sums(one)

    def test_deeds_thrown(self):
        dice = Dice(72)
        for _ in range(12):
            one = Book(3, order=order_made(dice, 3))
            stand = [({}, one.order())]
            for _ in range(60):
                runs, order = stand[-1]
                word = dice.one_of(["put", "put", "put", "take", "exchange", "turn", "back"])
                if word == "put":
                    name = dice.one_of("abcdefgh")
                    run = net_made(dice, 3, dice.below(4)), lengths_made(dice, 3, 5, 2), lengths_made(dice, 3, 5)
                    if name in runs:
                        self.refuses(Twice, ("name", name), one, "put", name, *run)
                    else:
                        one.put(name, *run)
                        stand.append(({**runs, name: run}, order))
                elif word == "turn":
                    order = order_made(dice, 3)
                    one.turn(order)
                    stand.append((runs, order))
                elif word == "back" and len(stand) > 1:
                    one.back()
                    stand.pop()
                elif word == "take" and runs:
                    name = dice.one_of(sorted(runs))
                    one.take(name)
                    stand.append(({key: run for key, run in runs.items() if key != name}, order))
                elif word == "exchange" and runs:
                    name = dice.one_of(sorted(runs))
                    net = ("last", runs[name][0], ("first", runs[name][0], B))
                    if is_net(net, 3) and are_alike(net, runs[name][0], 3):
                        one.exchange(name, net)
                        stand.append(({**runs, name: (net, *runs[name][1:])}, order))
                runs, order = stand[-1]
                self.assertEqual((one.names(), one.order(), one.deeds()), (tuple(sorted(runs)), order, len(stand) - 1))
                self.assertEqual({name: one.run(name) for name in one.names()}, runs)
                rows = [real(shares(*run, order)) for run in runs.values()]
                self.assertEqual(one.shares(), tuple(pair(sum([row[work] for row in rows], real([O])[0])) for work in range(3)))
                self.assertEqual(one.lateness(), pair(sum(real(one.shares()))))


if __name__ == "__main__":
    unittest.main()
