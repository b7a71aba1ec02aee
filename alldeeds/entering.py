"""Entries that are made of a choice and of things at leaves."""

from alldeeds.formparts import FORK_WORDS


def entry_within(place, sides, things):
    """The entry of the place, with the sides of its forks and the things of its leaves."""
    if not place.halves:
        return things[place.number]
    if place.word in FORK_WORDS:
        side = sides[place.number]
        return (side, entry_within(place.halves[side], sides, things))
    left, right = place.halves
    return (entry_within(left, sides, things), entry_within(right, sides, things))


def entry_of_ends(layout, choice, things):
    """The entry of the ends with the choice and with a thing for each met leaf."""
    sides = dict(choice)
    return tuple([entry_within(root, sides, things) for root in layout.roots])
