"""Things of every kind, as points that take anything may be handed them."""

import copy


def deep(kind, inmost, times=30):
    """A tuple, a list or a dict that holds one that holds one .., so many deep."""
    thing = inmost
    for _ in range(times):
        if kind is dict:
            thing = {"in": thing}
        else:
            thing = kind([thing])
    return thing


def things():
    """Made anew each time, so that one test can't spoil them for another one."""
    return [
        None, True, False, 0, 1, -1, 7, 10 ** 12 - 1, 1 - 10 ** 12, 10 ** 30,
        "", " ", "0", "1", "-", "a", "work", "rest", "None", "(1, 2)", "a b", "w0", "\n", "\u0663",
        (), (0,), (1,), (None,), (True,), ("",), ((),), ([],), ({},),
        (None, None), (True, True), ("1", "2"), ([], []), ({}, {}), ((), ()), ((1, 2), (3, 4)),
        [], [0], [1, 2], [None], [[]], ["work", 0], [("work", 0)], [[1, 2], [3, 4]],
        {}, {0: 1}, {1: 2, 3: 4}, {"work": 0}, {"n": 1, "d": 2}, {"a": {"b": [1, (2, {})]}},
        (1, [2, {"a": (None, True)}], "x"), [(1, 2), {"k": [()]}],
        deep(tuple, 0), deep(list, 0), deep(dict, 0), deep(tuple, []), deep(list, ()),
        deep(tuple, ("work", 0), 29), deep(list, (1, 2), 29),
    ]


def told_of(test, ask, thing):
    """What is told of a thing: twice the same, and the thing is what it was."""
    before = copy.deepcopy(thing)
    told = ask(thing)
    test.assertEqual(ask(thing), told)
    test.assertEqual(repr(thing), repr(before))
    return told
