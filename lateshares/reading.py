"""Nets, lengths and runs read from texts.

A net is put together from the words and brackets of a text, whatever else stands between; writing it again then finds
whatever is written otherwise.
"""

from lateshares.errors import NoText
from lateshares.fractions import is_figures, read_fraction
from lateshares.hours import is_lengths
from lateshares.nets import HOURED, MEETINGS, is_net
from lateshares.showing import show_net


def is_number(text):
    """Whether a text is a whole number from 0, as it is written."""
    return is_figures(text) and str(int(text)) == text


def leaf_read(word):
    """The work or the rest of this word; of others the word itself, which is no net."""
    if is_number(word):
        return ("rest", int(word))
    if word.startswith("w") and is_number(word[1:]):
        return ("work", int(word[1:]))
    return word


def join_read(pieces):
    """The join of a word and its parts, or None."""
    word, *parts = pieces
    if word in MEETINGS:
        return (word, *parts)
    if word in HOURED and len(parts) == 2 and parts[0][0] == "rest":
        return (word, parts[0][1], parts[1])
    return None


def net_put_together(text):
    """What may be the net of a text, or None."""
    # Of each bracket that stands open its word and its parts, the innermost one last.
    waiting = [[]]
    for word in text.replace("(", " ( ").replace(")", " ) ").replace(",", " ").split():
        if word == "(":
            if not waiting[-1]:
                return None
            waiting.append([waiting[-1].pop()])
        elif word == ")":
            if len(waiting) == 1:
                return None
            join = join_read(waiting.pop())
            if join is None:
                return None
            waiting[-1].append(join)
        else:
            waiting[-1].append(leaf_read(word))
    return waiting[0][0] if len(waiting) == 1 and len(waiting[0]) == 1 else None


def read_net(text, many):
    """The net of many works that is so written; anything else is refused."""
    if not isinstance(text, str):
        raise NoText(text)
    net = net_put_together(text)
    if not is_net(net, many) or show_net(net) != text:
        raise NoText(text)
    return net


def read_lengths(text, many):
    """The lengths of so many works that are so written; anything else is refused."""
    if not isinstance(text, str):
        raise NoText(text)
    try:
        lengths = tuple([read_fraction(word) for word in text.split(" ")])
    except NoText:
        raise NoText(text) from None
    if not is_lengths(lengths, many):
        raise NoText(text)
    return lengths


def read_run(text, many):
    """(net, plan, truth) of the run that is so written; anything else is refused."""
    if not isinstance(text, str):
        raise NoText(text)
    net, _, lengths = text.partition(" : ")
    plan, _, truth = lengths.partition(" > ")
    try:
        return (read_net(net, many), read_lengths(plan, many), read_lengths(truth, many))
    except NoText:
        raise NoText(text) from None
