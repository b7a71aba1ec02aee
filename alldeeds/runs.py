"""Runs of deeds, and walks through them; no wirings are made for them."""

from alldeeds.deeds import check_deed
from alldeeds.errors import BadValue
from alldeeds.layouts import Layout, fits_asking
from alldeeds.running import Run
from alldeeds.values import as_tuple, is_integer


class Answer:
    """The wiring of a run, and the hidden sides at the hand ons that it meets, by their numbers."""

    def __init__(self, wiring, hidden):
        self.wiring = as_tuple(wiring)
        self.hidden = dict(hidden)


class Walk:
    """The links through which a walk goes, each with its way, and the leaf at which it comes out."""

    def __init__(self, stations, leaf):
        self.stations = as_tuple(stations)
        self.leaf = leaf


def run_of(deed, asking):
    """The run of the deed for the asking."""
    check_deed(deed)
    if not fits_asking(Layout(deed.ends), asking):
        raise BadValue(asking)
    return Run(deed, asking)


def answer(deed, asking):
    """The Answer of the deed to the asking."""
    run = run_of(deed, asking)
    hidden = {}
    for at in sorted(run.hands):
        form, names = run.hands[at]
        hidden[at + 1] = run.choice_of(Layout([form]), names)
    return Answer(run.wiring(), hidden)


def links_met(deed, asking):
    """The ascending tuple of the numbers of the links that the run meets."""
    return tuple([at + 1 for at in sorted(run_of(deed, asking).links)])


def walk(deed, asking, leaf):
    """The Walk of a thing that enters at the leaf."""
    run = run_of(deed, asking)
    if not is_integer(leaf) or leaf not in run.met_leaves():
        raise BadValue(leaf)
    stations, out = run.way_from(leaf)
    return Walk(stations, out)
