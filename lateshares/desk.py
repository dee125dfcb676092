"""A desk: a book that is asked by lines of text."""

from lateshares.alike import never_later
from lateshares.book import Book
from lateshares.errors import NoLine, NoText
from lateshares.fractions import written
from lateshares.reading import is_number, read_net, read_run
from lateshares.runs import turns
from lateshares.sharing import ranges, shares
from lateshares.showing import show_lengths, show_run

DONE = "done"
NONE = "-"


def back_said(book):
    """The last deed is undone."""
    book.back()
    return DONE


def shares_said(book):
    """What works bear in all."""
    return show_lengths(book.shares())


def lateness_said(book):
    """The lateness in all."""
    return written(book.lateness())


def names_said(book):
    """The names of all runs."""
    return " ".join(book.names()) or NONE


def put_said(book, many, text):
    """A run is put."""
    name, _, run = text.partition(" ")
    net, plan, truth = read_run(run, many)
    book.put(name, net, plan, truth)
    return DONE


def take_said(book, _, name):
    """A run is taken."""
    book.take(name)
    return DONE


def exchange_said(book, many, text):
    """A run's net is exchanged."""
    name, _, net = text.partition(" ")
    book.exchange(name, read_net(net, many))
    return DONE


def turn_said(book, _, text):
    """The order is turned."""
    words = text.split(" ")
    if not all([is_number(word) for word in words]):
        raise NoText(text)
    book.turn(tuple([int(word) for word in words]))
    return DONE


def run_said(book, _, name):
    """The text of a run."""
    net, plan, truth = book.run(name)
    return show_run(net, plan, truth)


def share_said(book, _, name):
    """The shares of a run."""
    net, plan, truth = book.run(name)
    return show_lengths(shares(net, plan, truth, book.order()))


def range_said(book, _, name):
    """The ranges of a run."""
    net, plan, truth = book.run(name)
    return ", ".join([f"{written(least)} to {written(greatest)}" for least, greatest in ranges(net, plan, truth)])


def turns_said(book, _, name):
    """The moments at which the hour of a run turns."""
    net, plan, truth = book.run(name)
    return show_lengths(turns(net, plan, truth)) or NONE


def never_said(_, many, text):
    """Whether a net is never later than another one."""
    one, _, other = text.partition(" > ")
    word, shown = never_later(read_net(one, many), read_net(other, many), many)
    if word == "later":
        return f"{word} {show_lengths(shown)}"
    return word


# The lines that are one word.
ALONE = {"back": back_said, "shares": shares_said, "lateness": lateness_said, "names": names_said}
# Those that hang on what stands behind the first blank.
ASKED = {
    "put": put_said, "take": take_said, "exchange": exchange_said, "turn": turn_said, "run": run_said,
    "share": share_said, "range": range_said, "turns": turns_said, "never": never_said,
}


class Desk:
    """A book of so many works, and its answers."""

    def __init__(self, many):
        self._many = many
        self._book = Book(many)

    def say(self, line):
        """The answer to a line."""
        if not isinstance(line, str):
            raise NoLine(line)
        word, blank, text = line.partition(" ")
        if word in ALONE and blank == "":
            answer = ALONE[word]
            return answer(self._book)
        if word in ASKED:
            reply = ASKED[word]
            return reply(self._book, self._many, text)
        raise NoLine(line)
