"""Entries of forms and of ends over sets."""

from alldeeds.checks import check_ends, check_form
from alldeeds.entering import entry_of_ends, entry_parts, fits_entry, fits_entry_of_ends, fits_listed_sets, fits_sets
from alldeeds.errors import BadValue, TooMany
from alldeeds.formparts import FORK_WORDS, is_leaf
from alldeeds.layouts import Layout, fits_choice, met_numbers
from alldeeds.values import is_integer, is_list, is_whole

MOST_ENTRIES = 20000


def check_sets(sets, forms):
    """Raises BadValue for what is no dict with sets for the goods of the forms."""
    if not fits_sets(sets, forms):
        raise BadValue(sets)


def check_listed_sets(sets, forms):
    """Raises BadValue for what is no dict with sets for the goods of the forms over which entries are listed."""
    if not fits_listed_sets(sets, forms):
        raise BadValue(sets)


def is_entry(form, sets, value):
    """Whether any value is an entry of the form over the sets."""
    check_form(form)
    check_sets(sets, [form])
    return fits_entry(form, sets, value)


def entry_total(form, sets):
    """How many entries the form has."""
    if is_leaf(form):
        return sets[form[1]]
    left, right = entry_total(form[1], sets), entry_total(form[2], sets)
    return left + right if form[0] in FORK_WORDS else left * right


def listed_entries(form, sets):
    """The ascending list of the entries of the form."""
    if is_leaf(form):
        return list(range(sets[form[1]]))
    left, right = listed_entries(form[1], sets), listed_entries(form[2], sets)
    if form[0] in FORK_WORDS:
        return [(0, one) for one in left] + [(1, other) for other in right]
    return [(one, other) for one in left for other in right]


def all_entries(form, sets):
    """The ascending list of all entries of the form over the sets."""
    check_form(form)
    check_listed_sets(sets, [form])
    if entry_total(form, sets) > MOST_ENTRIES:
        raise TooMany(MOST_ENTRIES)
    return listed_entries(form, sets)


def parts_of(ends, entry):
    """The choice and the things of an entry of the ends."""
    check_ends(ends)
    if not fits_entry_of_ends(ends, None, entry):
        raise BadValue(entry)
    return entry_parts(Layout(ends), entry)


def choice_of(ends, entry):
    """The choice of the entry."""
    return parts_of(ends, entry)[0]


def things_of(ends, entry):
    """The ascending tuple of the pairs of a met leaf and its thing."""
    return parts_of(ends, entry)[1]


def is_thing_pair(value):
    """Whether the value is a pair of a number and a thing."""
    return isinstance(value, tuple) and len(value) == 2 and is_integer(value[0]) and is_whole(value[1])


def entry_with(ends, choice, things):
    """The entry with the choice and with these things at the met leaves."""
    check_ends(ends)
    layout = Layout(ends)
    if not fits_choice(layout, choice):
        raise BadValue(choice)
    if not is_list(things) or not all([is_thing_pair(pair) for pair in things]):
        raise BadValue(things)
    if sorted([leaf for leaf, _ in things]) != met_numbers(layout, choice):
        raise BadValue(things)
    return entry_of_ends(layout, choice, dict(things))
