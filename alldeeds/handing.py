"""Hand ons of Wirings, which need not come of deeds."""

from alldeeds.errors import BadValue, TooMany
from alldeeds.formparts import MOST_LEAVES, counter_of, leaf_count
from alldeeds.joining import handed_wirings, matches, opposites
from alldeeds.layouts import Layout
from alldeeds.renumbering import number_places
from alldeeds.stepping import without
from alldeeds.values import is_number_below
from alldeeds.wirings import check_wirings, wirings_on


def check_handed_ends(one, other, i, j):
    """Raises BadValue for numbers of ends that cannot be handed on to each other."""
    if not is_number_below(i, len(one.ends)):
        raise BadValue(i)
    if not is_number_below(j, len(other.ends)) or counter_of(one.ends[i]) != other.ends[j]:
        raise BadValue(j)
    if len(one.ends) + len(other.ends) == 2:
        raise BadValue(j)


def shifted(wirings, leaves, forks):
    """The wirings with the numbers of their leaves and forks so many higher."""
    told = []
    for choice, links in wirings:
        sides = [(fork + forks, side) for fork, side in choice]
        told.append((tuple(sides), tuple([(one + leaves, other + leaves) for one, other in links])))
    return told


def handed(one, other, i, j):
    """The hand on of the two Wirings at these ends."""
    check_wirings(one)
    check_wirings(other)
    check_handed_ends(one, other, i, j)
    ends = without(one.ends, i) + without(other.ends, j)
    if sum([leaf_count(form) for form in ends]) > MOST_LEAVES:
        raise TooMany(MOST_LEAVES)
    ahead = Layout(one.ends)
    others = shifted(other.wirings, len(ahead.leaves), len(ahead.forks))
    roots = Layout(one.ends + other.ends).roots
    leaves, forks = number_places([roots[i]])
    opposite_leaves, opposite_forks = number_places([roots[len(one.ends) + j]])
    matched = matches(one.wirings, others, forks, opposite_forks)
    told = handed_wirings(matched, opposites(leaves, opposite_leaves), opposites(forks, opposite_forks))
    return wirings_on(without(without(roots, len(one.ends) + j), i), told)
