"""The leaves and forks of ends with their numbers, and what a choice meets of them."""

from alldeeds.formparts import FORK_WORDS, is_leaf
from alldeeds.values import is_number_below, is_side


class Place:
    """A form that stands in the ends: its node, its number as a leaf or fork and among all places, the forks above."""

    def __init__(self, form, node, above, at):
        self.form = form
        self.word = form[0]
        self.node = node
        self.above = above
        self.at = at
        self.number = -1
        self.halves = ()


class Layout:
    """All places of the ends; places, leaves and forks stand in reading order, which numbers them."""

    def __init__(self, ends):
        self.places = []
        self.leaves = []
        self.forks = []
        self.roots = []
        for at, form in enumerate(ends):
            self.roots.append(self.laid(form, (at,), ()))

    def laid(self, form, node, above):
        """The place of the form, with all that is within."""
        place = Place(form, node, above, len(self.places))
        self.places.append(place)
        if is_leaf(form):
            place.number = len(self.leaves)
            self.leaves.append(place)
            return place
        over = [above, above]
        if place.word in FORK_WORDS:
            place.number = len(self.forks)
            self.forks.append(place)
            over = [above + ((place.number, side),) for side in (0, 1)]
        left = self.laid(form[1], node + (0,), over[0])
        right = self.laid(form[2], node + (1,), over[1])
        place.halves = (left, right)
        return place


def is_met(place, sides):
    """Whether each fork above the place takes the side on which it stands."""
    return all([sides.get(fork) == side for fork, side in place.above])


def fits_choice(layout, value):
    """Whether the value is a choice of the ends."""
    if not isinstance(value, tuple):
        return False
    sides = {}
    last = -1
    for pair in value:
        if not isinstance(pair, tuple) or len(pair) != 2 or not is_side(pair[1]):
            return False
        if not is_number_below(pair[0], len(layout.forks)) or pair[0] <= last:
            return False
        last = pair[0]
        sides[last] = pair[1]
    return all([is_met(fork, sides) == (fork.number in sides) for fork in layout.forks])


def offered_numbers(layout):
    """The ascending list of the numbers of the forks that are offered."""
    return [fork.number for fork in layout.forks if fork.word == "offered"]


def fits_asking(layout, value):
    """Whether the value is an asking of the ends."""
    if not isinstance(value, tuple) or len(value) != len(offered_numbers(layout)):
        return False
    return all([is_side(side) for side in value])


def met_numbers(layout, choice):
    """The ascending list of the numbers of the leaves that the choice meets."""
    sides = dict(choice)
    return [leaf.number for leaf in layout.leaves if is_met(leaf, sides)]


def choices_within(place):
    """All choices of the forks within the place, and of itself."""
    if not place.halves:
        return [()]
    left, right = [choices_within(half) for half in place.halves]
    if place.word in FORK_WORDS:
        number = place.number
        return [((number, 0),) + choice for choice in left] + [((number, 1),) + choice for choice in right]
    return [one + other for one in left for other in right]


def settled_form(place, sides):
    """The form of the place in which each fork is replaced by its half on the chosen side."""
    if not place.halves:
        return place.form
    if place.word in FORK_WORDS:
        return settled_form(place.halves[sides[place.number]], sides)
    return (place.word, settled_form(place.halves[0], sides), settled_form(place.halves[1], sides))
