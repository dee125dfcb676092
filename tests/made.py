"""Nets, lengths and runs to ask about: some put down one by one, some thrown by dice that fall alike in each run."""

from itertools import product

from lateshares.fractions import part

A = ("work", 0)
B = ("work", 1)
C = ("work", 2)
R0 = ("rest", 0)
R1 = ("rest", 1)
R2 = ("rest", 2)

# Of three works: each kind, nested, works that stand in it twice or not at all.
NETS = [
    A, C, R0, R2,
    ("after", A, B), ("after", A, R1, C, A), ("last", A, B), ("last", C, B, A), ("first", A, B), ("first", C, R1, B, A),
    ("not_before", 1, A), ("not_before", 0, B), ("given_up", 1, A), ("given_up", 0, C), ("not_before", 2, R1),
    ("last", A, A), ("first", B, B), ("last", R1, R2), ("first", R2, R1), ("last", R0, A, R2), ("first", R1, C, R0),
    ("last", ("after", A, B), ("after", C, C)), ("first", ("after", A, B), ("after", B, C)),
    ("last", ("first", A, B), ("first", B, C), ("first", A, C)), ("first", ("last", A, B), ("last", B, C), C),
    ("after", ("last", A, B), ("first", A, B)), ("after", ("last", A, B), ("first", B, C), R1),
    ("last", ("after", A, R1), ("after", B, R2), C), ("first", ("after", A, A), ("after", B, R1), R2),
    ("not_before", 2, ("after", A, ("given_up", 1, B))), ("given_up", 2, ("last", A, ("not_before", 1, C))),
    ("last", ("given_up", 1, A), ("given_up", 1, B)), ("first", ("not_before", 1, A), ("not_before", 1, B)),
    ("after", ("not_before", 1, A), ("last", B, C)), ("last", A, ("first", ("after", B, B), ("last", C, A), R2)),
    ("after", ("first", A, ("last", B, C)), ("first", A, ("last", B, C)), ("given_up", 1, ("after", A, B, C))),
]

# Each two end alike for all lengths.
ALIKE = [
    (("last", A, B), ("last", B, A)), (("first", A, B, C), ("first", C, A, B)), (("after", A, B), ("after", B, A)),
    (("last", A, A), A), (("first", A, A, A), A), (("last", A, R0), A), (("given_up", 0, A), R0),
    (("not_before", 0, ("after", A, B)), ("after", B, R0, A)), (("not_before", 2, A), ("last", A, R2)),
    (("given_up", 2, A), ("first", A, R2)), (("last", A, ("last", B, C)), ("last", ("last", C, A), B)),
    (("after", A, ("last", B, C)), ("last", ("after", A, B), ("after", A, C))),
    (("after", A, ("first", B, R1)), ("first", ("after", A, B), ("after", R1, A))),
    (("first", A, ("last", B, C)), ("last", ("first", A, B), ("first", A, C))),
    (("last", A, ("first", B, C)), ("first", ("last", A, B), ("last", A, C))),
    (("first", A, ("last", A, B)), A), (("last", A, ("first", A, B)), A),
    (("last", A, ("after", A, B)), ("after", A, B)), (("first", A, ("after", A, B)), A),
    (("not_before", 1, ("given_up", 2, A)), ("given_up", 2, ("not_before", 1, A))),
    (("not_before", 2, ("given_up", 1, A)), R2), (("after", ("last", A, B), ("first", A, B)), ("after", A, B)),
    (("after", R1, R2, ("rest", 4)), ("rest", 7)),
    (("last", ("first", A, B), ("first", B, C), ("first", C, A)),
     ("first", ("last", A, B), ("last", B, C), ("last", C, A))),
]


class Dice:
    """Numbers that fall in no plain row, but alike in each run."""

    def __init__(self, seed):
        self.now = seed

    def below(self, many):
        self.now = (self.now * 6364136223846793005 + 1442695040888963407) % 2 ** 64
        return (self.now >> 33) % many

    def one_of(self, some):
        return some[self.below(len(some))]


def net_made(dice, many, joins, rest=8):
    """A net of so many works and joins, with rests and hours below rest."""
    if joins == 0:
        return ("rest", dice.below(rest)) if dice.below(6) == 0 else ("work", dice.below(many))
    word = dice.one_of(["after", "last", "first", "last", "first", "not_before", "given_up"])
    if word in ("not_before", "given_up"):
        return (word, dice.below(rest), net_made(dice, many, joins - 1, rest))
    ends = sorted([dice.below(joins) for _ in range(1 + dice.below(3))])
    shut = [end - begin for begin, end in zip([0, *ends], [*ends, joins - 1])]
    return (word, *[net_made(dice, many, some, rest) for some in shut])


def lengths_made(dice, many, top, most=1):
    """So many lengths, with d up to most, whose n is below top."""
    return tuple(part(dice.below(top), 1 + dice.below(most)) for _ in range(many))


def order_made(dice, many):
    left = list(range(many))
    return tuple(left.pop(dice.below(len(left))) for _ in range(many))


def all_lengths(many, *numbers):
    """All lengths of so many works by some whole numbers."""
    return [tuple((n, 1) for n in some) for some in product(numbers, repeat=many)]


def all_runs(many, *numbers):
    """All (plan, truth) by some whole numbers."""
    return list(product(all_lengths(many, *numbers), repeat=2))


def plain(test, thing):
    """That a thing is nothing but tuples and whole numbers."""
    if type(thing) is tuple:
        for one in thing:
            plain(test, one)
    else:
        test.assertIs(type(thing), int, thing)
