"""Askings of ends, and the wirings that answer them."""

from alldeeds.checks import check_ends
from alldeeds.errors import BadValue, TooMany
from alldeeds.layouts import Layout, fits_asking, offered_numbers
from alldeeds.wirings import check_wirings

MOST_OFFERED = 10


def asked_forks(ends):
    """The numbers of the offered forms of the ends; TooMany if there are too many."""
    offered = offered_numbers(Layout(ends))
    if len(offered) > MOST_OFFERED:
        raise TooMany(MOST_OFFERED)
    return offered


def askings_of(ends):
    """The ascending tuple of all askings."""
    check_ends(ends)
    found = [()]
    for _ in asked_forks(ends):
        found = [asking + (side,) for asking in found for side in (0, 1)]
    return tuple(found)


def unlike_sides(choice, asked):
    """Whether the choice takes another side than the asked one at a fork that it meets."""
    return any([asked.get(fork, side) != side for fork, side in choice])


def answering(wirings, asking):
    """The ascending tuple of the numbers of the wirings that answer the asking."""
    check_wirings(wirings)
    layout = Layout(wirings.ends)
    if not fits_asking(layout, asking):
        raise BadValue(asking)
    asked = dict(zip(offered_numbers(layout), asking))
    choices = [choice for choice, _ in wirings.wirings]
    return tuple([number for number, choice in enumerate(choices) if not unlike_sides(choice, asked)])


def first_wrong(rows, offered, asking):
    """The first asking that begins so and is not answered just once, with the numbers that answer; None if none.

    A row is the number of a wiring and the dict of its sides; all rows answer what is asked already.
    """
    if len(asking) == len(offered):
        return None if len(rows) == 1 else (asking, tuple([number for number, _ in rows]))
    fork = offered[len(asking)]
    for side in (0, 1):
        answers = [row for row in rows if row[1].get(fork, side) == side]
        found = first_wrong(answers, offered, asking + (side,))
        if found is not None:
            return found
    return None


def first_unanswered(wirings):
    """The first asking that is not answered by exactly one wiring, with the numbers that answer it; None if none."""
    check_wirings(wirings)
    offered = asked_forks(wirings.ends)
    rows = [(number, dict(wiring[0])) for number, wiring in enumerate(wirings.wirings)]
    return first_wrong(rows, offered, ())
