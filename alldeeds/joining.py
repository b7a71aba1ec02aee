"""What is left of wirings whose ends are handed on to one another.

The leaves and forks of both sides have unlike numbers here.
"""


def sides_taken(choice, forks):
    """The sides that the choice takes at the forks, -1 at those that it does not meet."""
    sides = dict(choice)
    return tuple([sides.get(fork, -1) for fork in forks])


def matches(ones, others, forks, opposite_forks):
    """Each of the first wirings with the list of the others that take the same sides at the opposite forks."""
    table = {}
    for other in others:
        table.setdefault(sides_taken(other[0], opposite_forks), []).append(other)
    return [(one, table.get(sides_taken(one[0], forks), [])) for one in ones]


def passed_links(links, opposite):
    """The links between leaves that are not handed on, over those that are.

    A ring of links among leaves that are handed on has no other leaf, and leaves nothing.
    """
    partner = {}
    for one, other in links:
        partner[one] = other
        partner[other] = one
    passed = []
    for start in partner:
        if start not in opposite:
            leaf = partner[start]
            while leaf in opposite:
                leaf = partner[opposite[leaf]]
            if start < leaf:
                passed.append((start, leaf))
    return tuple(passed)


def opposites(ones, others):
    """The dict that sends each of these to its opposite, both ways."""
    opposite = {}
    for one, other in zip(ones, others):
        opposite[one] = other
        opposite[other] = one
    return opposite


def handed_wirings(matched, leaves, forks):
    """The wirings that matched ones tell; leaves and forks send those handed on to their opposites."""
    told = []
    for one, others in matched:
        for other in others:
            choice = tuple([pair for pair in one[0] + other[0] if pair[0] not in forks])
            told.append((choice, passed_links(one[1] + other[1], leaves)))
    return told
