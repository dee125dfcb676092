"""Texts of nets, lengths and runs."""

from lateshares.fractions import written
from lateshares.nets import folded


def leaf_shown(one):
    """The text of a work or a rest."""
    if one[0] == "work":
        return f"w{one[1]}"
    return str(one[1])


def join_shown(join, parts):
    """The text of a join by those of its parts, the hour among them."""
    inside = ", ".join(parts)
    return f"{join[0]}({inside})"


def show_net(net):
    """The text of a net."""
    return folded(net, leaf_shown, join_shown)


def show_lengths(lengths):
    """The text of any fractions."""
    return " ".join([written(one) for one in lengths])


def show_run(net, plan, truth):
    """The text of a run."""
    return f"{show_net(net)} : {show_lengths(plan)} > {show_lengths(truth)}"
