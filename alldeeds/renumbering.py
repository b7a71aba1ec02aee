"""Leaves and forks that get other numbers, and their wirings with them."""


class Numbers:
    """Numbers for leaves and forks, none of which is told twice."""

    def __init__(self):
        self.told = 0

    def fresh(self, many):
        """So many new numbers."""
        start = self.told
        self.told += many
        return tuple(range(start, self.told))


def ascending_pair(one, other):
    """Both numbers as a pair, the lesser one first."""
    return (min(one, other), max(one, other))


def renumbered(wiring, leaves, forks):
    """The wiring with the leaves and forks that have new numbers, with these; all others are left out."""
    choice, links = wiring
    sides = [(forks[fork], side) for fork, side in choice if fork in forks]
    pairs = [ascending_pair(leaves[one], leaves[other]) for one, other in links if one in leaves]
    return (tuple(sorted(sides)), tuple(sorted(pairs)))


def number_places(places):
    """The dicts from the numbers of the leaves and forks within the places to new ones, place by place."""
    leaves, forks = {}, {}
    for place in places:
        number_place(place, leaves, forks)
    return (leaves, forks)


def number_place(place, leaves, forks):
    """Gives all leaves and forks within the place the next new numbers."""
    if not place.halves:
        leaves[place.number] = len(leaves)
        return
    if place.number >= 0:
        forks[place.number] = len(forks)
    for half in place.halves:
        number_place(half, leaves, forks)
