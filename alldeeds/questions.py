"""Whether promises hold for a file, and the papers that show it."""

from alldeeds.deeds import steps_of
from alldeeds.items import check_file, deed_of_item, items_by_name
from alldeeds.likeness import parting
from alldeeds.orders import count_orders
from alldeeds.promises import check_promise
from alldeeds.sameforms import both_ways
from alldeeds.search import count_unlike, some_deed
from alldeeds.wired import wirings_of


def ends_named(table, name):
    """The ends with this name as a tuple, None if there are none."""
    item = table.get(name)
    return tuple(item[2]) if item is not None and item[0] == "ends" else None


def deed_named(table, name):
    """The Deed of the deed or program with this name, None if there is none."""
    item = table.get(name)
    return None if item is None else deed_of_item(item)


def ask_alike(table, one, other):
    """Whether two deeds have the same ends and are alike, and what parts them."""
    deed, other_deed = deed_named(table, one), deed_named(table, other)
    if deed is None or other_deed is None or deed.ends != other_deed.ends:
        return (False, None)
    paper = parting(deed, other_deed)
    return (paper is None, paper)


def ask_for(table, name, ends_name):
    """Whether a deed has these ends."""
    deed, ends = deed_named(table, name), ends_named(table, ends_name)
    return (deed is not None and deed.ends == ends, None)


def ask_plain(table, name):
    """Whether a deed, which is no program, has no hand on."""
    item = table.get(name)
    if item is None or item[0] != "deed":
        return (False, None)
    return (not any([step[0] == "hand" for step in steps_of(deed_of_item(item))]), None)


def ask_open(table, name):
    """Whether some deed has these ends, and such a Deed."""
    ends = ends_named(table, name)
    deed = None if ends is None else some_deed(ends)
    return (deed is not None, deed)


def ask_has(table, name, many):
    """Whether these ends have so many unlike deeds, and how many otherwise."""
    ends = ends_named(table, name)
    if ends is None:
        return (False, None)
    found = count_unlike(ends)
    return (True, None) if found == many else (False, found)


def ask_same(table, one, other):
    """Whether two ends are one form each that are the same up to deeds, and deeds both ways."""
    ends, other_ends = ends_named(table, one), ends_named(table, other)
    if ends is None or other_ends is None or len(ends) != 1 or len(other_ends) != 1:
        return (False, None)
    paper = both_ways(ends[0], other_ends[0])
    return (paper is not None, paper)


def ask_apart(table, name, many):
    """Whether the wirings of a deed have at least so many orders, and how many otherwise."""
    deed = deed_named(table, name)
    if deed is None:
        return (False, None)
    found = count_orders(wirings_of(deed))
    return (True, None) if found >= many else (False, found)


ASKERS = {
    "alike": ask_alike,
    "for": ask_for,
    "plain": ask_plain,
    "open": ask_open,
    "has": ask_has,
    "same": ask_same,
    "apart": ask_apart,
}


def answered(table, promise):
    """Whether the promise holds for the items with these names, and its paper."""
    asker = ASKERS[promise[0]]
    told = promise[1:]
    return asker(table, *told)


def asked(file, promise):
    """Whether the promise holds for the file, and its paper."""
    check_file(file)
    check_promise(promise)
    return answered(items_by_name(file), promise)
