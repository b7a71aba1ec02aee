"""Meanings: the entries that fit some wiring of a Wirings."""

from alldeeds.deeds import check_deed
from alldeeds.entering import entry_of_ends, entry_parts, fits_entry_of_ends
from alldeeds.entries import MOST_ENTRIES, check_listed_sets, check_sets
from alldeeds.errors import BadValue, TooMany
from alldeeds.layouts import Layout, met_numbers
from alldeeds.stepping import without
from alldeeds.values import is_list, is_number_below, is_whole
from alldeeds.wired import wirings_of
from alldeeds.wirings import check_wirings

MOST_OF_A_CHOICE = 12
DEEPEST_PAIR = 12


def links_by_choice(wirings):
    """The dict from each choice of the wirings to the list of the links of those that have it."""
    table = {}
    for choice, links in wirings.wirings:
        table.setdefault(choice, []).append(links)
    return table


def many_within(numbers):
    """The product of the numbers."""
    many = 1
    for number in numbers:
        many = many * number
    return many


def check_entry_count(many):
    """Raises TooMany if a list has so many entries."""
    if many > MOST_ENTRIES:
        raise TooMany(MOST_ENTRIES)


def things_that_fit(links, bounds):
    """The list of all ways to give linked leaves a common thing, each an ascending tuple of pairs of leaf and thing.

    The bounds have the number of things for each leaf.
    """
    check_entry_count(many_within([bounds[one] for one, _ in links]))
    told = [()]
    for one, other in links:
        told = [things + ((one, thing), (other, thing)) for things in told for thing in range(bounds[one])]
    return [tuple(sorted(things)) for things in told]


def bounds_of(layout, sets):
    """For each leaf the number of the things of its good."""
    return [sets[leaf.form[1]] for leaf in layout.leaves]


def listed_meaning(wirings, sets):
    """The ascending list of the entries that fit the wirings."""
    layout = Layout(wirings.ends)
    bounds = bounds_of(layout, sets)
    entries = []
    table = links_by_choice(wirings)
    for choice in table:
        fitting = {}
        for links in table[choice]:
            for things in things_that_fit(links, bounds):
                fitting[things] = True
            check_entry_count(len(entries) + len(fitting))
        entries.extend([entry_of_ends(layout, choice, dict(things)) for things in fitting])
    return sorted(entries)


def meaning_of(wirings, sets):
    """The ascending list of the entries of the meaning of the Wirings."""
    check_wirings(wirings)
    check_listed_sets(sets, wirings.ends)
    return listed_meaning(wirings, sets)


def meaning(deed, sets):
    """The ascending list of the entries of the meaning of the Deed."""
    check_deed(deed)
    check_listed_sets(sets, deed.ends)
    return listed_meaning(wirings_of(deed), sets)


def fits(wirings, entry):
    """The ascending tuple of the wirings that the entry fits."""
    check_wirings(wirings)
    if not fits_entry_of_ends(wirings.ends, None, entry):
        raise BadValue(entry)
    choice, things = entry_parts(Layout(wirings.ends), entry)
    at = dict(things)
    found = []
    for wiring in wirings.wirings:
        if wiring[0] == choice and all([at[one] == at[other] for one, other in wiring[1]]):
            found.append(wiring)
    return tuple(found)


def joined_groups(groups, links):
    """The groups of leaves, each told by one of its leaves, in which linked leaves are together."""
    for one, other in links:
        kept, gone = groups[one], groups[other]
        if kept != gone:
            groups = {leaf: kept if groups[leaf] == gone else groups[leaf] for leaf in groups}
    return groups


def missing_count(rows, groups, bounds):
    """How many ways there are to give each group a thing so that no row of links has linked leaves alike.

    Each row has all of the leaves; the ways in which it has linked leaves alike
    are those in which the groups that it joins have one thing.
    """
    if not rows:
        return many_within([bounds[leaf] for leaf in sorted(set(list(groups.values())))])
    joined = joined_groups(groups, rows[0])
    return missing_count(rows[1:], groups, bounds) - missing_count(rows[1:], joined, bounds)


def entry_count(wirings, sets):
    """How many entries the meaning of the Wirings has."""
    check_wirings(wirings)
    check_sets(sets, wirings.ends)
    layout = Layout(wirings.ends)
    bounds = bounds_of(layout, sets)
    table = links_by_choice(wirings)
    if any([len(table[choice]) > MOST_OF_A_CHOICE for choice in table]):
        raise TooMany(MOST_OF_A_CHOICE)
    total = 0
    for choice in table:
        groups = {leaf: leaf for leaf in met_numbers(layout, choice)}
        every = many_within([bounds[leaf] for leaf in groups])
        total += every - missing_count(table[choice], groups, bounds)
    return total


def fits_item(value, room):
    """Whether the value is a whole number or a pair of such items, so many pairs deep at most."""
    if not isinstance(value, tuple):
        return is_whole(value)
    return room > 0 and len(value) == 2 and all([fits_item(part, room - 1) for part in value])


def fits_entries(value):
    """Whether the value is a list of what may be entries of one list of ends."""
    if not is_list(value) or not value or not all([isinstance(entry, tuple) and entry for entry in value]):
        return False
    if not all([len(entry) == len(value[0]) for entry in value]):
        return False
    return all([fits_item(item, DEEPEST_PAIR) for entry in value for item in entry])


def flat_parts(value):
    """The whole numbers in an item or an entry, with a mark ahead of each tuple, which is no whole number.

    Items may be too deep for the keys of a dict, so these stand for them there.
    """
    if not isinstance(value, tuple):
        return (value,)
    parts = [-1]
    for part in value:
        parts.extend(flat_parts(part))
    return tuple(parts)


def joined_meaning(one, other, i, j):
    """The ascending list of the entries of a hand on, told from those of the two deeds."""
    for entries in (one, other):
        if not fits_entries(entries):
            raise BadValue(entries)
    if not is_number_below(i, len(one[0])):
        raise BadValue(i)
    if not is_number_below(j, len(other[0])) or len(one[0]) + len(other[0]) == 2:
        raise BadValue(j)
    table = {}
    for entry in other:
        table.setdefault(flat_parts(entry[j]), []).append(without(entry, j))
    told = {}
    for entry in one:
        for rest in table.get(flat_parts(entry[i]), []):
            joined = without(entry, i) + rest
            told[flat_parts(joined)] = joined
    return sorted(list(told.values()))
