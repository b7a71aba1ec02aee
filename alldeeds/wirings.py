"""Wirings: a list of ends, and some of their wirings."""

from alldeeds.checks import check_ends
from alldeeds.errors import BadValue
from alldeeds.formparts import counter_of
from alldeeds.layouts import Layout, fits_choice, met_numbers
from alldeeds.renumbering import number_places, renumbered
from alldeeds.values import is_integer, is_list, is_order


def fits_links(layout, choice, value):
    """Whether the value is the links of a wiring with the choice."""
    if not isinstance(value, tuple):
        return False
    linked = {}
    last = -1
    for link in value:
        if not isinstance(link, tuple) or len(link) != 2 or not all([is_integer(leaf) for leaf in link]):
            return False
        one, other = link
        if not last < one < other < len(layout.leaves) or one in linked or other in linked:
            return False
        if counter_of(layout.leaves[one].form) != layout.leaves[other].form:
            return False
        last = one
        linked[one] = linked[other] = True
    return sorted(linked) == met_numbers(layout, choice)


def fits_wiring(layout, value):
    """Whether the value is a wiring of the ends."""
    if not isinstance(value, tuple) or len(value) != 2 or not fits_choice(layout, value[0]):
        return False
    return fits_links(layout, value[0], value[1])


class Wirings:
    """A set of wirings of ends; they need not come of a deed."""

    def __init__(self, ends, wirings):
        check_ends(ends)
        if not is_list(wirings):
            raise BadValue(wirings)
        layout = Layout(ends)
        for wiring in wirings:
            if not fits_wiring(layout, wiring):
                raise BadValue(wiring)
        self.ends = tuple(ends)
        self.wirings = tuple(sorted(set(wirings)))

    def __eq__(self, other):
        return isinstance(other, Wirings) and self.ends == other.ends and self.wirings == other.wirings


def check_wirings(wirings):
    """Raises BadValue for what is no Wirings."""
    if not isinstance(wirings, Wirings):
        raise BadValue(wirings)


def choices_of(wirings):
    """The ascending tuple of the choices of the wirings, each once."""
    check_wirings(wirings)
    return tuple(sorted({choice for choice, _ in wirings.wirings}))


def links_at(wirings, choice):
    """The ascending tuple of the links of all wirings with the choice."""
    check_wirings(wirings)
    if not fits_choice(Layout(wirings.ends), choice):
        raise BadValue(choice)
    return tuple(sorted([links for taken, links in wirings.wirings if taken == choice]))


def wirings_on(places, wirings):
    """The Wirings that have the places as ends, of each of the wirings what stands within them."""
    leaves, forks = number_places(places)
    return Wirings([place.form for place in places], [renumbered(wiring, leaves, forks) for wiring in wirings])


def turned_wirings(wirings, order):
    """The Wirings with the ends in another order."""
    check_wirings(wirings)
    if not is_list(order) or not is_order(order, len(wirings.ends)):
        raise BadValue(order)
    roots = Layout(wirings.ends).roots
    return wirings_on([roots[end] for end in order], wirings.wirings)
