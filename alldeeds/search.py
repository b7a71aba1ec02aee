"""All deeds of some ends, as far as they are unlike."""

from alldeeds.checks import check_ends
from alldeeds.deeds import Deed
from alldeeds.searching import Search, steps_found
from alldeeds.wirings import Wirings


def search_of(ends):
    """The Search for the deeds of the ends."""
    check_ends(ends)
    return Search(ends)


def all_wirings(ends):
    """The tuple of all Wirings of the ends that come of a deed, ascending by their wirings."""
    search = search_of(ends)
    sets = search.sets_of(search.whole)
    found = [Wirings(ends, [search.board.bits.wiring_of(row) for row in rows]) for rows in sets]
    return tuple(sorted(found, key=lambda told: told.wirings))


def count_unlike(ends):
    """How many Wirings of the ends come of a deed."""
    search = search_of(ends)
    return len(search.sets_of(search.whole))


def counts_found(ends):
    """The least and the greatest number of wirings of a deed of the ends; None if there is no deed."""
    search = search_of(ends)
    return search.counts(search.whole)


def has_deed(ends):
    """Whether there is a deed of the ends."""
    return counts_found(ends) is not None


def some_deed(ends):
    """A Deed of the ends without hand ons, None if there is none."""
    search = search_of(ends)
    if search.counts(search.whole) is None:
        return None
    return Deed(steps_found(search))


def least_choices(ends):
    """The least number of wirings that a Wirings of the ends that comes of a deed has; None if there is none."""
    counts = counts_found(ends)
    return None if counts is None else counts[0]


def most_choices(ends):
    """The greatest number of wirings that a Wirings of the ends that comes of a deed has; None if there is none."""
    counts = counts_found(ends)
    return None if counts is None else counts[1]
