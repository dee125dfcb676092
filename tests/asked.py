"""Questions, each asked twice, of things that stay as they were."""

import copy
import inspect
import unittest

from tests.made import Dice, lengths_made, net_made, order_made


def whole(*numbers):
    """Numbers without parts, as fractions."""
    return tuple((n, 1) for n in numbers)


def runs_thrown(seed, many_runs, most_works, most_joins, top=6):
    """(net, plan, truth, order); the lower the top, the more is alike."""
    dice = Dice(seed)
    for k in range(many_runs):
        many = 1 + k % most_works
        net = net_made(dice, many, k % (most_joins + 1), top)
        plan = lengths_made(dice, many, top, 1 + k % 3)
        truth = lengths_made(dice, many, top, 1 + k % 2)
        yield net, plan, truth, order_made(dice, many)


def beside(word, leaves):
    """Some nets, however many, in joins of one kind, four in each."""
    while len(leaves) > 1:
        groups = [leaves[k:k + 4] for k in range(0, len(leaves), 4)]
        leaves = [(word, *group) if len(group) > 1 else group[0] for group in groups]
    return leaves[0]


class Asked(unittest.TestCase):
    def ask(self, question, *handed, **named):
        """What is told, twice the same, nothing handed in being changed; tuples, whole numbers, texts and truths."""
        before = copy.deepcopy((handed, named))
        told = question(*handed, **named)
        self.assertEqual(repr(question(*handed, **named)), repr(told))
        self.assertEqual(repr((handed, named)), repr(before))
        self.check_kind(told)
        return told

    def check_kind(self, told):
        if type(told) is tuple:
            for one in told:
                self.check_kind(one)
        else:
            self.assertIn(type(told), (int, str, bool))

    def refused(self, kind, question, *handed, **named):
        """Asked twice, refused with just this class each time, nothing handed in being changed."""
        for _ in range(2):
            before = copy.deepcopy((handed, named))
            with self.assertRaises(kind) as caught:
                question(*handed, **named)
            self.assertIs(type(caught.exception), kind)
            self.assertEqual(repr((handed, named)), repr(before))
        return caught.exception

    def check_interface(self, module, wanted):
        for name, arguments in wanted.items():
            function = getattr(module, name)
            self.assertEqual(function.__module__, module.__name__)
            self.assertEqual(function.__name__, name)
            self.assertEqual(str(inspect.signature(function)), arguments, name)
