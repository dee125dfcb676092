"""Papers of shares: who is followed at each join, stretch by stretch, and a looker that reckons at their ends alone."""

from lateshares.following import counts_in, looked_at, mark_chosen, marks_of
from lateshares.fractions import NOUGHT, is_fraction, is_less, is_whole
from lateshares.nets import LATEST, nets_in, parts_of
from lateshares.runs import END, delays_of, lengths_at, moments_of, rows_along
from lateshares.sharing import shares, shares_in


def choices_along(net, lengths, slopes, order):
    """The number of the part that is followed at each join but after, as lengths begin to grow."""
    works, rest = marks_of(lengths, slopes, order)
    _, looks = looked_at(net, works, rest, mark_chosen)
    return tuple([marks.index(followed) for _, marks, followed in looks])


def paper(net, plan, truth, order):
    """A paper of the shares: ("shares", shares, rows)."""
    moments = moments_of(net, plan, truth)
    rows = rows_along(moments, plan, truth, lambda lengths, slopes: choices_along(net, lengths, slopes, order))
    return ("shares", shares(net, plan, truth, order), rows)


def are_stretches(thing):
    """Whether anything is a tuple of (from, to, something), one behind the other from 0 to 1."""
    if not isinstance(thing, tuple):
        return False
    reached = NOUGHT
    for row in thing:
        if not isinstance(row, tuple) or len(row) != 3 or not is_fraction(row[0]) or not is_fraction(row[1]):
            return False
        if row[0] != reached or not is_less(reached, row[1]):
            return False
        reached = row[1]
    # What goes beyond 1 never comes back to it.
    return reached == END


def are_choices(thing, net):
    """Whether anything is a tuple with the number of a part for each join of the net but after."""
    many = [len(parts_of(one)) for one in nets_in(net) if parts_of(one) and one[0] != "after"]
    if not isinstance(thing, tuple) or len(thing) != len(many):
        return False
    return all([is_whole(one) and 0 <= one < most for one, most in zip(thing, many)])


def looked_by(net, works, rest, choices):
    """What looked_at tells where the followed parts are those of such choices."""
    left = list(choices)

    def choose(_, marks):
        # looked_at asks about the join first that begins last.
        return marks[left.pop()]

    return looked_at(net, works, rest, choose)


def is_followed(join, mark, other):
    """Whether a part of this mark may be followed beside another one: what it comes to at both ends stands ahead."""
    if join[0] not in LATEST:
        mark, other = other, mark
    if mark[:2] == other[:2]:
        return mark >= other
    return mark[0] >= other[0] and mark[1] >= other[1]


def counts_by(row, net, plan, truth, order):
    """How often works are followed by the choices of a row, or None where they don't hold at its ends."""
    begin, end, choices = row
    works, rest = marks_of(lengths_at(plan, truth, begin), lengths_at(plan, truth, end), order)
    # The marks bear here what a sum comes to at both ends, where a rest is the same.
    rest = (rest[0], rest[0], *rest[2:])
    mark, looks = looked_by(net, works, rest, choices)
    for join, marks, chosen in looks:
        if not all([is_followed(join, chosen, other) for other in marks]):
            return None
    return counts_in(mark, order)


def rows_shown(rows, net, plan, truth, order):
    """A list of (from, to, counts) of the rows, or None where one of them doesn't hold."""
    found = []
    for row in rows:
        if not are_choices(row[2], net):
            return None
        counts = counts_by(row, net, plan, truth, order)
        if counts is None:
            return None
        found.append((row[0], row[1], counts))
    return found


def shows_shares(net, plan, truth, order, thing):
    """Whether anything is a paper that shows the shares of this run."""
    if not isinstance(thing, tuple) or len(thing) != 3 or thing[0] != "shares":
        return False
    _, told, rows = thing
    # A truth is alike to a whole number, but no fraction bears one.
    if not isinstance(told, tuple) or not all([is_fraction(one) for one in told]) or not are_stretches(rows):
        return False
    shown = rows_shown(rows, net, plan, truth, order)
    return shown is not None and told == shares_in(shown, delays_of(plan, truth))
