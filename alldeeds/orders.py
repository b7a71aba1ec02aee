"""The whole ways to take Wirings apart."""

from alldeeds.weaving import Weave, first_taking, taken_apart, weave_of_deed
from alldeeds.wirings import check_wirings


def orders_of(weave, part, counted):
    """How many orders a Part has; the dict has those that are counted already."""
    if part.is_plain_link():
        return 1
    # the order of the ends has no meaning for the number
    key = (tuple(sorted([place.at for place in part.places])), part.rows)
    if key not in counted:
        total = 0
        for end in range(len(part.places)):
            parts = taken_apart(weave, part, end)
            if parts is not None:
                total += orders_of_all(weave, parts, counted)
        counted[key] = total
    return counted[key]


def orders_of_all(weave, parts, counted):
    """How many ways there are to have an order of each of the Parts."""
    many = 1
    for part in parts:
        many = many * orders_of(weave, part, counted)
    return many


def count_orders(wirings):
    """The number of the orders of the Wirings."""
    check_wirings(wirings)
    weave = Weave(wirings)
    return orders_of(weave, weave.whole, {})


def told_order(weave, part):
    """The told way of a Part that comes of a deed."""
    if part.is_plain_link():
        return ()
    end, parts = first_taking(weave, part)
    return (end,) + tuple([told_order(weave, taken) for taken in parts])


def first_order(wirings):
    """The told way: an end, and the order or the pair of orders of what is taken there."""
    check_wirings(wirings)
    weave = weave_of_deed(wirings)
    return told_order(weave, weave.whole)
