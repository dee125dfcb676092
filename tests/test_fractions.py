"""Stage 1: fractions, with Python's own as the measure."""

import inspect
import unittest
from fractions import Fraction

from lateshares import fractions
from lateshares.errors import LateError, NoPart, NoText
from lateshares.fractions import (
    greatest_of, is_fraction, is_less, least_of, minus, over, part, plus, read_fraction, sum_of, times, written)
from tests.anything import things, told_of

BIG = 10 ** 12 - 1

# Fractions small and great, below 0 too, some of them too near for numbers with a point.
SOME = [
    (0, 1), (1, 1), (-1, 1), (2, 1), (-2, 1), (7, 1), (12, 1), (1, 2), (-1, 2), (3, 2), (-3, 2), (1, 3), (-1, 3),
    (2, 3), (-2, 3), (5, 6), (-5, 6), (1, 6), (7, 12), (9, 4), (-9, 4), (4, 9), (10, 3), (-10, 3), (1, 7), (22, 7),
    (BIG, 1), (-BIG, 1), (BIG - 1, 1), (1, BIG), (-1, BIG), (BIG, BIG - 1), (BIG - 1, BIG), (BIG - 2, BIG - 1),
    (1 - BIG, BIG), (-BIG, BIG - 1), (333333333333, 10 ** 12 - 2), (1, 10 ** 12 - 2),
]


def pythons(fraction):
    return Fraction(fraction[0], fraction[1])


def ours(number):
    return (number.numerator, number.denominator)


class Case(unittest.TestCase):
    def assert_told(self, told, number):
        """Told is just this number, as a fraction: a plain tuple of plain ints."""
        self.assertEqual(told, ours(Fraction(number)))
        self.assertIs(type(told), tuple)
        self.assertEqual([type(one) for one in told], [int, int])

    def assert_no_part(self, borne, ask):
        with self.assertRaises(NoPart) as caught:
            ask()
        self.assertIs(type(caught.exception), NoPart)
        self.assertEqual(caught.exception.n, borne)
        self.assertIs(type(caught.exception.n), type(borne))


class Interface(unittest.TestCase):
    def test_names_and_arguments(self):
        wanted = {
            "is_fraction": "(thing)", "part": "(n, d=1)", "plus": "(one, other)", "minus": "(one, other)",
            "times": "(one, other)", "over": "(one, other)", "is_less": "(one, other)", "sum_of": "(some)",
            "least_of": "(some)", "greatest_of": "(some)", "written": "(fraction)", "read_fraction": "(text)",
        }
        for name, arguments in wanted.items():
            function = getattr(fractions, name)
            self.assertEqual(function.__module__, "lateshares.fractions")
            self.assertEqual(str(inspect.signature(function)), arguments, name)


class IsFraction(Case):
    def test_fractions(self):
        for thing in SOME:
            self.assertIs(told_of(self, is_fraction, thing), True, thing)

    def test_all_small_pairs(self):
        for n in range(-40, 41):
            for d in range(-40, 41):
                has_common = any(n % k == 0 and d % k == 0 for k in range(2, 41))
                self.assertIs(is_fraction((n, d)), d >= 1 and not has_common, (n, d))

    def test_a_common_part_of_great_numbers(self):
        for thing in [(2 * 10 ** 11, 10 ** 11), (BIG, BIG), (10 ** 11, 2), (3, BIG), (-3, BIG), (999983 * 2, 999983 * 3)]:
            self.assertIs(is_fraction(thing), False, thing)

    def test_nought(self):
        self.assertIs(is_fraction((0, 1)), True)
        for d in (0, 2, 3, -1, BIG):
            self.assertIs(is_fraction((0, d)), False, d)

    def test_second_part_below_one(self):
        for thing in [(1, 0), (-1, 0), (1, -1), (-1, -1), (3, -2), (-3, -2), (0, -1), (1, -BIG)]:
            self.assertIs(is_fraction(thing), False, thing)

    def test_one_part_more_or_fewer(self):
        for thing in [(), (1,), (0,), (3, 2, 1), (3, 2, 5), (0, 1, 1), (1, 2, 3, 4), ((3, 2),), (1, 1, None)]:
            self.assertIs(is_fraction(thing), False, thing)

    def test_truths_are_no_numbers(self):
        # Asked behind the numbers that they are alike to, so that nothing told of these is told of them.
        for one in [(1, 1), (0, 1), (1, 2)]:
            self.assertIs(is_fraction(one), True)
        for thing in [(True, 1), (1, True), (True, True), (False, 1), (False, True), (True, 2), (0, True)]:
            self.assertIs(told_of(self, is_fraction, thing), False, thing)
        self.assertIs(is_fraction((1, 1)), True)

    def test_other_kinds(self):
        handed = [
            [3, 2], [1, 1], "3/2", "32", "12", ("3", "2"), (3, "2"), ("3", 2), (None, 1), (1, None), {3: 2}, {3, 2},
            ((3, 2), (1, 1)), ((3, 2), 1), (3, (2, 1)), ([3], [2]), (3, [2]), ([3], 2), {"n": 3, "d": 2}, ({}, 1),
            range(2, 4), b"12",
        ]
        for thing in handed:
            self.assertIs(told_of(self, is_fraction, thing), False, thing)

    def test_anything(self):
        for thing in things():
            self.assertIs(told_of(self, is_fraction, thing), False, thing)
            for pair in ((thing, 2), (3, thing)):
                if type(thing) is not int:
                    self.assertIs(told_of(self, is_fraction, pair), False, pair)
                else:
                    self.assertIs(type(is_fraction(pair)), bool)

    def test_by_name(self):
        self.assertIs(is_fraction(thing=(3, 2)), True)
        self.assertIs(is_fraction(thing=[3, 2]), False)


class Part(Case):
    def test_all_small_pairs(self):
        for n in range(-24, 25):
            for d in range(-24, 25):
                if d != 0:
                    self.assert_told(part(n, d), Fraction(n, d))

    def test_great_numbers(self):
        for n in (BIG, -BIG, BIG - 1, 3 * 10 ** 11, 1, 0):
            for d in (BIG, -BIG, 1 - BIG, 2 * 10 ** 11, -1, 1):
                self.assert_told(part(n, d), Fraction(n, d))

    def test_second_left_out(self):
        for n in (0, 1, -1, 6, -6, BIG, -BIG):
            self.assert_told(part(n), n)
            self.assertEqual(part(n), (n, 1))

    def test_nought(self):
        for d in (1, -1, 2, -2, 6, -6, BIG, -BIG):
            self.assert_told(part(0, d), 0)

    def test_written_out(self):
        self.assertEqual(part(6, 4), (3, 2))
        self.assertEqual(part(6, -4), (-3, 2))
        self.assertEqual(part(-6, 4), (-3, 2))
        self.assertEqual(part(-6, -4), (3, 2))
        self.assertEqual(part(8, -4), (-2, 1))

    def test_refused(self):
        for n in (0, 1, -1, 6, BIG, -BIG):
            self.assert_no_part(n, lambda: part(n, 0))
            self.assert_no_part(n, lambda: part(n=n, d=0))

    def test_by_name(self):
        self.assertEqual(part(n=6, d=-4), (-3, 2))
        self.assertEqual(part(d=4, n=6), (3, 2))
        self.assertEqual(part(n=5), (5, 1))
        self.assertEqual(part(5, d=10), (1, 2))


class Reckoning(Case):
    def test_of_two(self):
        for one in SOME:
            for other in SOME:
                first, second = pythons(one), pythons(other)
                self.assert_told(plus(one, other), first + second)
                self.assert_told(minus(one, other), first - second)
                self.assert_told(times(one, other), first * second)
                self.assertIs(is_less(one, other), first < second)
                if second != 0:
                    self.assert_told(over(one, other), first / second)

    def test_written_out(self):
        self.assertEqual(plus((1, 2), (1, 3)), (5, 6))
        self.assertEqual(plus((1, 2), (-1, 2)), (0, 1))
        self.assertEqual(minus((1, 2), (1, 3)), (1, 6))
        self.assertEqual(minus((1, 3), (1, 2)), (-1, 6))
        self.assertEqual(times((2, 3), (3, 2)), (1, 1))
        self.assertEqual(times((-2, 3), (0, 1)), (0, 1))
        self.assertEqual(over((1, 2), (-3, 4)), (-2, 3))
        self.assertEqual(over((0, 1), (-3, 4)), (0, 1))

    def test_over_nought_is_refused(self):
        for one in SOME:
            self.assert_no_part(one, lambda: over(one, (0, 1)))
            self.assert_no_part(one, lambda: over(one=one, other=(0, 1)))

    def test_less(self):
        self.assertIs(is_less((1, 3), (1, 2)), True)
        self.assertIs(is_less((1, 2), (1, 3)), False)
        self.assertIs(is_less((1, 2), (1, 2)), False)
        self.assertIs(is_less((-1, 2), (-1, 3)), True)
        self.assertIs(is_less((-1, 3), (-1, 2)), False)
        self.assertIs(is_less((-1, 2), (0, 1)), True)
        self.assertIs(is_less((BIG - 2, BIG - 1), (BIG - 1, BIG)), True)
        self.assertIs(is_less((BIG - 1, BIG), (BIG - 2, BIG - 1)), False)

    def test_by_name(self):
        self.assertEqual(plus(one=(1, 2), other=(1, 3)), (5, 6))
        self.assertEqual(minus(other=(1, 3), one=(1, 2)), (1, 6))
        self.assertEqual(times(one=(1, 2), other=(1, 3)), (1, 6))
        self.assertEqual(over(other=(1, 3), one=(1, 2)), (3, 2))
        self.assertIs(is_less(other=(1, 3), one=(1, 2)), False)
        self.assertIs(is_less(one=(1, 3), other=(1, 2)), True)

    def test_what_was_told_may_be_handed_in_again(self):
        whole = (1, 1)
        for one in SOME:
            whole = plus(times(whole, (BIG, 7)), one)
        self.assertIs(is_fraction(whole), True)
        self.assertEqual(minus(whole, whole), (0, 1))
        self.assertEqual(over(whole, whole), (1, 1))


def lots():
    """Tuples of numbers: of one, of two, of many, in several orders."""
    found = [(one,) for one in SOME]
    found += [(one, other) for one in SOME for other in SOME]
    found += [tuple(SOME[k:k + 5]) for k in range(len(SOME) - 4)]
    found += [tuple(SOME), tuple(SOME[::-1]), tuple(sorted(SOME, key=pythons)), tuple(SOME[1::2] + SOME[::2])]
    return found


class OfSome(Case):
    def test_sum(self):
        for some in lots():
            self.assert_told(sum_of(some), sum(pythons(one) for one in some))

    def test_sum_of_none(self):
        self.assert_told(sum_of(()), 0)
        self.assertEqual(sum_of(some=()), (0, 1))

    def test_sum_written_out(self):
        self.assertEqual(sum_of(((1, 2), (1, 3), (1, 6))), (1, 1))
        self.assertEqual(sum_of(((1, 2), (1, 2), (1, 2))), (3, 2))
        self.assertEqual(sum_of(((1, 2), (-1, 2))), (0, 1))

    def test_least_and_greatest(self):
        for some in lots():
            self.assert_told(least_of(some), min(pythons(one) for one in some))
            self.assert_told(greatest_of(some), max(pythons(one) for one in some))

    def test_least_and_greatest_written_out(self):
        some = ((1, 2), (-3, 1), (1, 3), (-1, 3), (5, 7))
        self.assertEqual(least_of(some), (-3, 1))
        self.assertEqual(greatest_of(some), (5, 7))
        # As Python sorts tuples, these would stand the other way round.
        self.assertEqual(least_of(((1, 2), (2, 7))), (2, 7))
        self.assertEqual(greatest_of(((1, 2), (2, 7))), (1, 2))
        self.assertEqual(least_of(((1, 2), (1, 3))), (1, 3))
        self.assertEqual(greatest_of(((-1, 2), (-1, 3))), (-1, 3))

    def test_by_name(self):
        self.assertEqual(sum_of(some=((1, 2), (1, 3))), (5, 6))
        self.assertEqual(least_of(some=((1, 2), (1, 3))), (1, 3))
        self.assertEqual(greatest_of(some=((1, 3), (1, 2))), (1, 2))


class Written(Case):
    def test_written(self):
        wanted = {
            (3, 2): "3/2", (-1, 3): "-1/3", (0, 1): "0", (1, 1): "1", (-1, 1): "-1", (12, 1): "12", (-7, 12): "-7/12",
            (BIG, 1): "999999999999", (-BIG, BIG - 1): "-999999999999/999999999998", (1, 10): "1/10", (10, 1): "10",
        }
        for fraction, text in wanted.items():
            self.assertEqual(written(fraction), text)
            self.assertIs(type(written(fraction)), str)
            self.assertEqual(written(fraction=fraction), text)

    def test_as_python_writes(self):
        for fraction in SOME:
            self.assertEqual(written(fraction), str(pythons(fraction)))

    def test_of_more_figures(self):
        self.assertEqual(written((10 ** 20, 3)), "100000000000000000000/3")


class Read(Case):
    def assert_no_text(self, thing):
        with self.assertRaises(NoText) as caught:
            read_fraction(thing)
        self.assertIs(type(caught.exception), NoText)
        self.assertIsInstance(caught.exception, LateError)
        self.assertIs(caught.exception.text, thing)

    def test_each_written_text(self):
        small = [ours(Fraction(n, d)) for n in range(-30, 31) for d in range(1, 31)]
        for fraction in SOME + small:
            text = written(fraction)
            self.assertEqual(told_of(self, read_fraction, text), fraction)
            self.assert_told(read_fraction(text), pythons(fraction))

    def test_written_out(self):
        self.assertEqual(read_fraction("3/2"), (3, 2))
        self.assertEqual(read_fraction("-1/3"), (-1, 3))
        self.assertEqual(read_fraction("0"), (0, 1))
        self.assertEqual(read_fraction("-12"), (-12, 1))
        self.assertEqual(read_fraction(text="10/3"), (10, 3))

    def test_twelve_figures_and_thirteen(self):
        self.assertEqual(read_fraction("999999999999"), (BIG, 1))
        self.assertEqual(read_fraction("-999999999999"), (-BIG, 1))
        self.assertEqual(read_fraction("-999999999999/999999999998"), (-BIG, BIG - 1))
        self.assertEqual(read_fraction("1/100000000000"), (1, 10 ** 11))
        spoilt = [
            "1000000000000", "-1000000000000", "9999999999999", "1/1000000000000", "-1/1000000000000",
            "1000000000000/3", "-1000000000000/3", "1/1000000000001", "1000000000001/2", "0000000000001",
            "1/0000000000002", "1" * 40, "-" + "1" * 40, "1/" + "1" * 40,
        ]
        for text in spoilt:
            self.assert_no_text(text)

    def test_signs(self):
        spoilt = [
            "+1", "+0", "+3/2", "--1", "---1", "-+1", "+-1", "1-", "3-/2", "3/-2", "-3/-2", "3/+2", "-3/+2", "3/2-",
            "-/2", "-", "+", "--", "~1", "_1", "\u22121", "\u20131", "\u22121/3", "--1/3", "1--", "3/--2", "-1-/3",
        ]
        for text in spoilt:
            self.assert_no_text(text)

    def test_nought(self):
        for text in ["-0", "00", "-00", "0/1", "-0/1", "0/2", "0/0", "-0/3", "0/7", "000", "0/", "/0", "1/0", "-1/0"]:
            self.assert_no_text(text)

    def test_nought_ahead(self):
        for text in ["01", "-01", "001", "03/2", "-03/2", "3/02", "-3/02", "3/002", "010", "00/1", "01/03"]:
            self.assert_no_text(text)

    def test_common_part(self):
        for text in ["2/4", "-2/4", "6/3", "-6/3", "4/2", "10/10", "3/999999999999", "999999999999/999999999999"]:
            self.assert_no_text(text)

    def test_part_of_one(self):
        for text in ["1/1", "3/1", "-3/1", "0/1", "999999999999/1", "3/01"]:
            self.assert_no_text(text)

    def test_strokes(self):
        for text in ["/", "//", "3/", "/2", "3//2", "3/2/", "/3/2", "3/2/1", "3/2/5", "-/", "3\\2", "3:2", "3|2",
                     "3\u20442", "3\u22152", "3.5", "3,5", "1.0", "0.5", ".5", "1e3", "0x1", "1_0", "1_000/3", "3/1_0"]:
            self.assert_no_text(text)

    def test_blanks(self):
        for text in ["", " ", " 1", "1 ", "\t1", "1\n", "\n1", "3 /2", "3/ 2", " 3/2", "3/2 ", "3/2\n", "- 1", "-1 ",
                     "1 2", "3/2\r", "3/2\x00", "\u00a01", "1\u00a0", "3/2\u2003", "-1/3\n", "1\x0b", "1\x1f"]:
            self.assert_no_text(text)

    def test_characters_that_are_no_figures(self):
        for sign in ["\u0663", "\u00b2", "\u2460", "\uff13", "\u0967", "\u00bd", "\u4e09", "\u2163", "\U0001d7db", "a",
                     "x", "O", "l", "\u00e9", "\ud800", "(", ")", ";", "#", "*", "."]:
            for text in [sign, "-" + sign, "1" + sign, sign + "1", "3/" + sign, sign + "/2", "3/2" + sign,
                         "3/1" + sign, "-" + sign + "/2"]:
                self.assert_no_text(text)

    def test_every_spoilt_sign(self):
        """One sign put in, left out or exchanged: read as Python's own writes it, or refused."""
        for text in ["3/2", "-1/3", "0", "-12", "105/11", "-20/9"]:
            spoilt = [text[:k] + text[k + 1:] for k in range(len(text))]
            for sign in "0123456789-+/ ._,ab":
                spoilt += [text[:k] + sign + text[k:] for k in range(len(text) + 1)]
                spoilt += [text[:k] + sign + text[k + 1:] for k in range(len(text))]
            for one in spoilt:
                self.check_as_written(one)

    def check_as_written(self, text):
        number = None
        if all(sign in "0123456789-/" for sign in text):
            try:
                number = Fraction(text)
            except (ValueError, ZeroDivisionError):
                number = None
        if number is not None and str(number) == text:
            self.assert_told(read_fraction(text), number)
        else:
            self.assert_no_text(text)

    def test_things_that_are_no_texts(self):
        for thing in things() + [(3, 2), ["3/2"], ("3/2",), {"3/2": 1}, ["3", "/", "2"], b"3/2", b"1", (1, 1)]:
            if type(thing) is not str:
                told_of(self, lambda one: self.assert_no_text(one), thing)

    def test_texts_among_anything(self):
        for thing in things():
            if type(thing) is str and thing not in ("0", "1"):
                self.assert_no_text(thing)

    def test_by_name(self):
        with self.assertRaises(NoText) as caught:
            read_fraction(text="3/1")
        self.assertEqual(caught.exception.text, "3/1")


if __name__ == "__main__":
    unittest.main()
