"""Taking Wirings apart at one of their ends."""

from alldeeds.errors import BadValue, CannotTake
from alldeeds.values import is_number_below
from alldeeds.weaving import Weave, taken_apart
from alldeeds.wirings import check_wirings, wirings_on


def is_plain_link(wirings):
    """Whether it is a good and its counter, in any order, with their one wiring."""
    check_wirings(wirings)
    return Weave(wirings).whole.is_plain_link()


def takings(wirings):
    """The ascending tuple of the numbers of the ends at which it can be taken."""
    check_wirings(wirings)
    weave = Weave(wirings)
    ends = range(len(wirings.ends))
    return tuple([end for end in ends if taken_apart(weave, weave.whole, end) is not None])


def wirings_of_part(weave, part):
    """The Wirings of a Part."""
    return wirings_on(part.places, [weave.bits.wiring_of(row) for row in part.rows])


def taken(wirings, end):
    """The tuple of the one Wirings or the two that are taken at the end."""
    check_wirings(wirings)
    if not is_number_below(end, len(wirings.ends)):
        raise BadValue(end)
    weave = Weave(wirings)
    parts = taken_apart(weave, weave.whole, end)
    if parts is None:
        raise CannotTake(end)
    return tuple([wirings_of_part(weave, part) for part in parts])
