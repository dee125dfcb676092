"""The refusals: each keeps what was handed in, whatever it was, under the told name."""


class LateError(ValueError):
    """Something handed in is refused."""


class NoPart(LateError):
    """The whole number, or the number, n can't be parted by 0."""

    def __init__(self, n):
        self.n = n


class NoText(LateError):
    """This is not written as the text that is asked for."""

    def __init__(self, text):
        self.text = text


class TooMany(LateError):
    """There are too many lots, or too many sums in a lot."""


class NoWork(LateError):
    """This is none of the works."""

    def __init__(self, work):
        self.work = work


class NoName(LateError):
    """This can't be the name of a run."""

    def __init__(self, name):
        self.name = name


class Twice(LateError):
    """A run of this name is in the book already."""

    def __init__(self, name):
        self.name = name


class NoNet(LateError):
    """This is not a net of so many works."""

    def __init__(self, net):
        self.net = net


class NoLengths(LateError):
    """These are not the lengths of so many works."""

    def __init__(self, lengths):
        self.lengths = lengths


class NoOrder(LateError):
    """This is not an order of so many works."""

    def __init__(self, thing):
        self.thing = thing


class Unlike(LateError):
    """Two nets end unlike by these lengths."""

    def __init__(self, lengths):
        self.lengths = lengths


class NoLine(LateError):
    """This is none of the lines that a desk answers."""

    def __init__(self, line):
        self.line = line


class Missing(LookupError):
    """Something that is asked for is not there."""


class NoRun(Missing):
    """No run of this name is in the book."""

    def __init__(self, name):
        self.name = name


class NoDeed(Missing):
    """There is no deed that could be undone."""
