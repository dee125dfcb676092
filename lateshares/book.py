"""A book of runs, whose deeds can be undone."""

from lateshares.alike import unlike_by
from lateshares.errors import NoDeed, NoLengths, NoName, NoNet, NoOrder, NoRun, Twice, Unlike
from lateshares.following import is_order
from lateshares.hours import is_lengths
from lateshares.nets import is_net
from lateshares.runs import lateness_together
from lateshares.sharing import shares_together

MOST_LETTERS = 12


def is_name(thing):
    """Whether anything is a text of small letters, one at least, not too many."""
    if not isinstance(thing, str) or len(thing) > MOST_LETTERS:
        return False
    return thing.isascii() and thing.isalpha() and thing.islower()


class Book:
    """Runs of so many works under their names, and an order of the works."""

    def __init__(self, many, *, order=None):
        self._many = many
        self._order = tuple(range(many))
        if order is not None:
            self._order = self._checked(order)
        self._runs = {}
        # The runs and the order ahead of each deed that stands. None of these is changed: a deed makes new ones.
        self._earlier = []

    def _checked(self, order):
        """An order that is one of the works."""
        if not is_order(order, self._many):
            raise NoOrder(order)
        return order

    def _change(self, runs, order):
        """One more deed, by which the runs and the order are these."""
        self._earlier.append((self._runs, self._order))
        self._runs = runs
        self._order = order

    def put(self, name, net, plan, truth):
        """A run is put into the book."""
        if not is_name(name):
            raise NoName(name)
        if name in self._runs:
            raise Twice(name)
        if not is_net(net, self._many):
            raise NoNet(net)
        for lengths in (plan, truth):
            if not is_lengths(lengths, self._many):
                raise NoLengths(lengths)
        self._change({**self._runs, name: (net, plan, truth)}, self._order)

    def take(self, name):
        """A run is taken out of the book."""
        self.run(name)
        self._change({other: self._runs[other] for other in self._runs if other != name}, self._order)

    def exchange(self, name, net):
        """A run has this net instead of its own, which ends alike."""
        old, plan, truth = self.run(name)
        if not is_net(net, self._many):
            raise NoNet(net)
        lengths = unlike_by(old, net, self._many)
        if lengths is not None:
            raise Unlike(lengths)
        self._change({**self._runs, name: (net, plan, truth)}, self._order)

    def turn(self, order):
        """The order of the works is this."""
        self._change(self._runs, self._checked(order))

    def back(self):
        """The last deed that stands is undone."""
        if not self._earlier:
            raise NoDeed()
        self._runs, self._order = self._earlier.pop()

    def shares(self):
        """For each work the sum of its shares in all runs."""
        return shares_together(list(self._runs.values()), self._many, self._order)

    def lateness(self):
        """The lateness of all runs together."""
        return lateness_together(list(self._runs.values()))

    def names(self):
        """The rising tuple of the names of all runs."""
        return tuple(sorted(self._runs))

    def run(self, name):
        """(net, plan, truth) of a run."""
        if not isinstance(name, str) or name not in self._runs:
            raise NoRun(name)
        return self._runs[name]

    def order(self):
        """The order of the works."""
        return self._order

    def deeds(self):
        """How many deeds can be undone."""
        return len(self._earlier)

    def __eq__(self, other):
        return (isinstance(other, Book) and self._many == other._many and self._order == other._order
                and self._runs == other._runs)

    def __len__(self):
        return len(self._runs)
