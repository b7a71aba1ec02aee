"""The wirings of a deed."""

from alldeeds.deeds import check_deed, steps_of
from alldeeds.renumbering import renumbered
from alldeeds.strands import strands_of
from alldeeds.wirings import Wirings


def wirings_of(deed):
    """The Wirings of the deed."""
    check_deed(deed)
    strands = strands_of(steps_of(deed))
    leaves, forks = {}, {}
    for end in strands.ends:
        for leaf in end[0]:
            leaves[leaf] = len(leaves)
        for fork in end[1]:
            forks[fork] = len(forks)
    return Wirings(deed.ends, [renumbered(wiring, leaves, forks) for wiring in strands.wirings])
