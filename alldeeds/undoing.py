"""Deeds that undo each other."""

from alldeeds.deeds import check_deed, plain_deed
from alldeeds.errors import BadValue, TooMany
from alldeeds.formparts import MOST_LEAVES, counter_of, leaf_count
from alldeeds.handing import handed
from alldeeds.likeness import alike
from alldeeds.wired import wirings_of


def is_plain_deed(deed):
    """Whether the deed is alike to the plain deed of its first end."""
    check_deed(deed)
    form = deed.ends[0]
    if deed.ends != (form, counter_of(form)):
        return False
    return alike(deed, plain_deed(form))


def plain_wirings(form):
    """The Wirings of the plain deed of the form."""
    return wirings_of(plain_deed(form))


def undo_each_other(there, back):
    """Whether the two Deeds, from some form to another one and back, undo each other."""
    check_deed(there)
    if len(there.ends) != 2:
        raise BadValue(there)
    check_deed(back)
    other, form = there.ends[0], counter_of(there.ends[1])
    if back.ends != (form, counter_of(other)):
        raise BadValue(back)
    if max(leaf_count(form), leaf_count(other)) * 2 > MOST_LEAVES:
        raise TooMany(MOST_LEAVES)
    ones, others = wirings_of(there), wirings_of(back)
    if handed(others, ones, 1, 0) != plain_wirings(form):
        return False
    return handed(ones, others, 1, 0) == plain_wirings(other)
