"""Nets: works and rests, joined."""

from lateshares.fractions import is_whole

MOST_JOINS = 12

# These take two to four nets.
MEETINGS = ("after", "last", "first")
# These take a whole number, the hour, and one net.
HOURED = ("not_before", "given_up")
# Of these the greatest part counts, of those the least.
LATEST = ("last", "not_before")
EARLIEST = ("first", "given_up")


def is_join(net):
    """Whether a net, or what may be one by its word, is a join."""
    return net[0] in MEETINGS or net[0] in HOURED


def is_begun(thing, many):
    """Whether anything is a net of many works as far as can be told without looking at its parts."""
    if not isinstance(thing, tuple) or len(thing) < 2 or not isinstance(thing[0], str):
        return False
    word = thing[0]
    if word == "work":
        return len(thing) == 2 and is_whole(thing[1]) and 0 <= thing[1] < many
    if word == "rest":
        return len(thing) == 2 and is_whole(thing[1]) and thing[1] >= 0
    if word in HOURED:
        return len(thing) == 3
    return word in MEETINGS and 3 <= len(thing) <= 5


def is_net(thing, many):
    """Whether anything is a net of many works."""
    joins = 0
    waiting = [thing]
    while waiting:
        one = waiting.pop()
        if not is_begun(one, many):
            return False
        if is_join(one):
            # Counted on the way: a small thing that holds one part again and again may have endless joins.
            joins += 1
            if joins > MOST_JOINS:
                return False
            # An hour is looked at as the rest that it is among the parts.
            waiting.extend(parts_of(one))
    return True


def parts_of(net):
    """Of a join the tuple of its nets, the hour as a rest ahead; of others ()."""
    if net[0] in HOURED:
        return (("rest", net[1]), net[2])
    if net[0] in MEETINGS:
        return net[1:]
    return ()


def nets_in(net):
    """A list of the net itself and of all parts in it, however deep, as they begin in the text."""
    found = []
    waiting = [net]
    while waiting:
        one = waiting.pop()
        found.append(one)
        waiting.extend(parts_of(one)[::-1])
    return found


def folded(net, leaf, joined):
    """What is told of a net: leaf(one) of works and rests, joined(join, told) of joins, by what is told of their parts.

    The joins are asked about in turn, the one that begins last in the text first.
    """
    # No function calls itself here: nets made of nets again and again may be deeper than Python lets calls be.
    told = []
    for one in nets_in(net)[::-1]:
        if is_join(one):
            told.append(joined(one, [told.pop() for _ in parts_of(one)]))
        else:
            told.append(leaf(one))
    return told[0]


def joins_in(net):
    """How many joins there are in a net."""
    return len([one for one in nets_in(net) if is_join(one)])


def works_in(net):
    """The rising tuple of the works that stand in a net."""
    return tuple(sorted({one[1] for one in nets_in(net) if one[0] == "work"}))
