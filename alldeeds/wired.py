"""The wirings of a deed."""

from alldeeds.deeds import MOST_STEPS, check_deed
from alldeeds.renumbering import renumbered
from alldeeds.stepping import steps_in_order
from alldeeds.strands import strands_of
from alldeeds.wirings import Wirings


def wirings_of(deed):
    """The Wirings of the deed."""
    check_deed(deed)
    strands = strands_of(steps_in_order(deed.steps, MOST_STEPS))
    leaves, forks = {}, {}
    for end in strands.ends:
        for leaf in end[0]:
            leaves[leaf] = len(leaves)
        for fork in end[1]:
            forks[fork] = len(forks)
    return Wirings(deed.ends, [renumbered(wiring, leaves, forks) for wiring in strands.wirings])
