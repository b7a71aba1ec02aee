"""Taking Wirings apart at one of their ends."""

from alldeeds.errors import BadValue, CannotTake
from alldeeds.layouts import Layout
from alldeeds.renumbering import number_places
from alldeeds.values import is_number_below
from alldeeds.wirings import check_wirings, wirings_on

PLAIN_WIRINGS = (((), ((0, 1),)),)


def is_plain_link(wirings):
    """Whether it is a good and its counter, in any order, with their one wiring."""
    check_wirings(wirings)
    # a wiring with the one link 0-1 has no other leaf and no fork, so two ends are a good and its counter
    return len(wirings.ends) == 2 and wirings.wirings == PLAIN_WIRINGS


def with_taken_side(wirings, fork, side):
    """The wirings that take the side at the fork."""
    return [wiring for wiring in wirings if (fork, side) in wiring[0]]


def taken_between(rest, place, wirings):
    """What is taken at a between."""
    return (wirings_on(rest + list(place.halves), wirings),)


def taken_offered(rest, place, wirings):
    """What is taken at an offered form."""
    left, right = place.halves
    lefts = with_taken_side(wirings, place.number, 0)
    rights = with_taken_side(wirings, place.number, 1)
    return (wirings_on(rest + [left], lefts), wirings_on(rest + [right], rights))


def taken_chosen(rest, place, wirings):
    """What is taken at a chosen form, None if its wirings do not take one side."""
    for side, half in enumerate(place.halves):
        if wirings and len(with_taken_side(wirings, place.number, side)) == len(wirings):
            return (wirings_on(rest + [half], wirings),)
    return None


def hanging_together(places, wirings):
    """For each of the places a number, the same one for those that hang together."""
    stands_in = {}
    for at, place in enumerate(places):
        for leaf in number_places([place])[0]:
            stands_in[leaf] = at
    groups = list(range(len(places)))
    for _, links in wirings:
        for one, other in links:
            group, joined = groups[stands_in[one]], groups[stands_in[other]]
            groups = [group if number == joined else number for number in groups]
    return groups


def taken_both(rest, place, wirings):
    """What is taken at a both, None if the wirings do not part there."""
    if not wirings:
        return None
    places = rest + list(place.halves)
    groups = hanging_together(places, wirings)
    left, right = groups[-2:]
    if left == right or not all([group in (left, right) for group in groups]):
        return None
    one = wirings_on([part for at, part in enumerate(places) if groups[at] == left], wirings)
    other = wirings_on([part for at, part in enumerate(places) if groups[at] == right], wirings)
    # each wiring is one pair of what is kept on both parts, so all pairs are there if they are as many
    if len(one.wirings) * len(other.wirings) != len(wirings):
        return None
    return (one, other)


def taken_leaf(rest, place, wirings):
    """Nothing is taken at a good or a counter."""
    return None


TAKERS = {
    "good": taken_leaf,
    "counter": taken_leaf,
    "both": taken_both,
    "between": taken_between,
    "offered": taken_offered,
    "chosen": taken_chosen,
}


def found_taking(wirings, end):
    """What is taken at the end, None if nothing can be taken there."""
    roots = Layout(wirings.ends).roots
    taker = TAKERS[roots[end].word]
    return taker(roots[:end] + roots[end + 1:], roots[end], wirings.wirings)


def takings(wirings):
    """The ascending tuple of the numbers of the ends at which it can be taken."""
    check_wirings(wirings)
    return tuple([end for end in range(len(wirings.ends)) if found_taking(wirings, end) is not None])


def taken(wirings, end):
    """The tuple of the one Wirings or the two that are taken at the end."""
    check_wirings(wirings)
    if not is_number_below(end, len(wirings.ends)):
        raise BadValue(end)
    told = found_taking(wirings, end)
    if told is None:
        raise CannotTake(end)
    return told
