"""Wirings told back from their meaning over two things."""

from alldeeds.checks import check_ends
from alldeeds.entering import entry_parts, fits_entry_of_ends
from alldeeds.errors import BadValue
from alldeeds.formparts import counter_of, goods_of
from alldeeds.layouts import Layout
from alldeeds.values import is_list
from alldeeds.wirings import Wirings, choices_of


def is_single(wirings):
    """Whether no two of its wirings have the same choice."""
    return len(choices_of(wirings)) == len(wirings.wirings)


def links_that_fit(layout, rows):
    """The links of the wiring that just these rows fit, None if there is none.

    A row is the tuple of the things at the met leaves, each behind its leaf; no two rows are equal.
    """
    columns = {}
    for row in rows:
        for leaf, thing in row:
            columns.setdefault(leaf, []).append(thing)
    alike = {}
    for leaf in columns:
        alike.setdefault(tuple(columns[leaf]), []).append(leaf)
    links = sorted([tuple(leaves) for leaves in alike.values()])
    for link in links:
        if len(link) != 2 or counter_of(layout.leaves[link[0]].form) != layout.leaves[link[1]].form:
            return None
    # linked leaves have one thing in each row, so these are all rows if there are two for each link
    return tuple(links) if len(rows) == 1 << len(links) else None


def told_back(ends, entries):
    """The single Wirings whose meaning over two things is just these entries, None if there is none."""
    check_ends(ends)
    if not is_list(entries):
        raise BadValue(entries)
    sets = {name: 2 for form in ends for name in goods_of(form)}
    layout = Layout(ends)
    table = {}
    for entry in entries:
        if not fits_entry_of_ends(ends, sets, entry):
            raise BadValue(entry)
        choice, things = entry_parts(layout, entry)
        rows = table.setdefault(choice, {})
        rows[things] = True
    wirings = []
    for choice in table:
        links = links_that_fit(layout, list(table[choice]))
        if links is None:
            return None
        wirings.append((choice, links))
    return Wirings(ends, wirings)
