"""The refusals: of which family each is, and what each keeps."""

import copy
import unittest

from lateshares import errors
from tests.anything import things

# The name of each refusal with the name under which it keeps what was handed in.
LATE = {
    "NoPart": "n", "NoText": "text", "TooMany": None, "NoWork": "work", "NoName": "name", "Twice": "name",
    "NoNet": "net", "NoLengths": "lengths", "NoOrder": "thing", "Unlike": "lengths", "NoLine": "line",
}
MISSING = {"NoRun": "name", "NoDeed": None}
ALL = {**LATE, **MISSING}


def made(word, *values, **named):
    return getattr(errors, word)(*values, **named)


class Families(unittest.TestCase):
    def test_there_are_thirteen(self):
        self.assertEqual(len(LATE), 11)
        self.assertEqual(len(ALL), 13)

    def test_the_families_stand_under_pythons_own(self):
        self.assertEqual(errors.LateError.__bases__, (ValueError,))
        self.assertEqual(errors.Missing.__bases__, (LookupError,))

    def test_neither_family_is_under_the_other(self):
        self.assertFalse(issubclass(errors.LateError, errors.Missing))
        self.assertFalse(issubclass(errors.Missing, errors.LateError))
        self.assertFalse(issubclass(errors.LateError, LookupError))
        self.assertFalse(issubclass(errors.Missing, ValueError))

    def test_each_stands_straight_under_its_family(self):
        for word in LATE:
            self.assertEqual(getattr(errors, word).__bases__, (errors.LateError,), word)
        for word in MISSING:
            self.assertEqual(getattr(errors, word).__bases__, (errors.Missing,), word)

    def test_each_is_defined_in_errors_under_its_own_name(self):
        for word in [*ALL, "LateError", "Missing"]:
            self.assertEqual(getattr(errors, word).__name__, word)
            self.assertEqual(getattr(errors, word).__module__, "lateshares.errors")

    def test_none_is_one_of_another(self):
        for word in ALL:
            for other in ALL:
                if word != other:
                    self.assertFalse(issubclass(getattr(errors, word), getattr(errors, other)), (word, other))


class Values(unittest.TestCase):
    def check_kept(self, word, thing, error):
        self.assertIs(type(error), getattr(errors, word))
        self.assertIs(getattr(error, ALL[word]), thing)
        self.assertEqual(vars(error), {ALL[word]: thing})

    def test_each_keeps_anything_handed_in_by_its_place(self):
        for word in [word for word in ALL if ALL[word]]:
            for thing in things():
                self.check_kept(word, thing, made(word, thing))

    def test_each_keeps_anything_handed_in_by_its_name(self):
        for word in [word for word in ALL if ALL[word]]:
            for thing in things():
                self.check_kept(word, thing, made(word, **{ALL[word]: thing}))

    def test_what_is_kept_is_not_changed(self):
        for word in [word for word in ALL if ALL[word]]:
            for thing in things():
                before = copy.deepcopy(thing)
                made(word, thing)
                self.assertEqual(repr(thing), repr(before))

    def test_each_error_keeps_its_own_value(self):
        for word in [word for word in ALL if ALL[word]]:
            first = made(word, 1)
            second = made(word, "two")
            self.assertEqual(getattr(first, ALL[word]), 1)
            self.assertEqual(getattr(second, ALL[word]), "two")

    def test_those_of_no_values(self):
        for word in ("TooMany", "NoDeed"):
            error = made(word)
            self.assertIs(type(error), getattr(errors, word))
            self.assertEqual(vars(error), {})

    def test_those_that_keep_a_value_need_one(self):
        for word in [word for word in ALL if ALL[word]]:
            with self.assertRaises(TypeError):
                made(word)


class Raised(unittest.TestCase):
    def raised(self, word):
        if ALL[word] is None:
            raise made(word)
        raise made(word, [word])

    def test_each_is_caught_by_its_name_its_family_and_pythons_own(self):
        for word in LATE:
            for kind in (getattr(errors, word), errors.LateError, ValueError):
                with self.assertRaises(kind):
                    self.raised(word)
        for word in MISSING:
            for kind in (getattr(errors, word), errors.Missing, LookupError):
                with self.assertRaises(kind):
                    self.raised(word)

    def test_what_is_caught_bears_its_value(self):
        for word in [word for word in ALL if ALL[word]]:
            with self.assertRaises(getattr(errors, word)) as caught:
                self.raised(word)
            self.assertEqual(getattr(caught.exception, ALL[word]), [word])


if __name__ == "__main__":
    unittest.main()
