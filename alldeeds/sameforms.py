"""Ways from one form to another one that is the same up to deeds."""

from alldeeds.back import deed_of
from alldeeds.checks import check_form
from alldeeds.deeds import Deed, check_deed
from alldeeds.errors import BadValue, TooMany
from alldeeds.flatforms import flats_of
from alldeeds.formparts import MOST_LEAVES, choice_total, counter_of, leaf_count
from alldeeds.pairing import all_rows, order_count, straight_rows
from alldeeds.turning import turned
from alldeeds.values import is_number_below
from alldeeds.wired import wirings_of
from alldeeds.wirings import Wirings

MOST_WAYS = 48
MOST_CHOICES = 64


def check_told(one, other):
    """Raises TooMany if no deeds or ways between the forms are told."""
    if leaf_count(one) + leaf_count(other) > MOST_LEAVES:
        raise TooMany(MOST_LEAVES)
    if choice_total(one) > MOST_CHOICES:
        raise TooMany(MOST_CHOICES)


def flats_if_same(one, other):
    """The Flats of the other form and of the one, numbered as the ends of a way; None if they are not the same."""
    check_form(one)
    check_form(other)
    # of two flat forms that are too great, either one raises the same
    flats = flats_of([other, one])
    return flats if flats[0].form == flats[1].form else None


def way_with(one, other, rows):
    """The Wirings of a way from the one form to the other one."""
    wirings = [(tuple(sorted(sides)), tuple(sorted(links))) for sides, links in rows]
    return Wirings((other, counter_of(one)), wirings)


def deed_there(one, other):
    """The Deed of the way from the one form to the other one that pairs their parts in order."""
    flats = flats_if_same(one, other)
    return deed_of(way_with(one, other, straight_rows(flats[0], flats[1])))


def both_ways(one, other):
    """Two Deeds that undo each other, from the one form to the other one and back; None if they are not the same."""
    if flats_if_same(one, other) is None:
        return None
    check_told(one, other)
    return (deed_there(one, other), deed_there(other, one))


def way_count(one, other):
    """How many ways there are from the one form to the other one."""
    flats = flats_if_same(one, other)
    return 0 if flats is None else order_count(flats[0])


def ways(one, other):
    """The list of all ways from the one form to the other one, ascending by their wirings."""
    flats = flats_if_same(one, other)
    if flats is None:
        return []
    if order_count(flats[0]) > MOST_WAYS:
        raise TooMany(MOST_WAYS)
    check_told(one, other)
    found = [way_with(one, other, rows) for rows in all_rows(flats[0], flats[1])]
    return sorted(found, key=lambda way: way.wirings)


def changed_end(deed, number, form):
    """The Deed handed on at an end to a deed of a way to the form; None if the form is not the same as the end."""
    check_deed(deed)
    if not is_number_below(number, len(deed.ends)):
        raise BadValue(number)
    end = deed.ends[number]
    if flats_if_same(end, form) is None:
        return None
    check_told(end, form)
    wirings_of(deed)
    ends = deed.ends[:number] + (form,) + deed.ends[number + 1:]
    if sum([leaf_count(told) for told in ends]) > MOST_LEAVES:
        raise TooMany(MOST_LEAVES)
    # the form is the first end of the hand on, the other ends stand behind it in their order
    order = tuple(range(1, number + 1)) + (0,) + tuple(range(number + 1, len(ends)))
    return Deed(turned(("hand", deed_there(end, form).steps, deed.steps, 1, number), order))
