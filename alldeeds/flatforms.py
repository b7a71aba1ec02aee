"""Flat forms, by which it is told whether two forms are the same up to deeds."""

from alldeeds.checks import check_form
from alldeeds.errors import BadValue, TooDeep, TooMany
from alldeeds.flats import MOST_FLAT_DEPTH, fits_flat, fits_grouped, flat_at, flat_size, form_grouped
from alldeeds.formparts import DEEPEST, choice_total
from alldeeds.layouts import Layout

MOST_FLAT_LEAVES = 300


def flats_of(forms):
    """The list of the Flats of the forms, whose leaves and forks are numbered as those of ends."""
    for form in forms:
        check_form(form)
    for form in forms:
        if flat_size(form)[2] > MOST_FLAT_LEAVES:
            raise TooMany(MOST_FLAT_LEAVES)
    return [flat_at(root) for root in Layout(forms).roots]


def flat_of(form):
    """The flat form of the form."""
    return flats_of([form])[0].form


def same_forms(one, other):
    """Whether the two forms are the same up to deeds."""
    flat, other_flat = flats_of([one, other])
    return flat.form == other_flat.form


def is_flat(value):
    """Whether any value is a flat form."""
    return fits_flat(value, MOST_FLAT_DEPTH)


def form_of(flat):
    """The form in which the first two parts are grouped, then these and the next one, and so on."""
    if not fits_flat(flat, MOST_FLAT_DEPTH):
        raise BadValue(flat)
    if not fits_grouped(flat, DEEPEST):
        raise TooDeep(DEEPEST)
    return form_grouped(flat)


def choice_count(form):
    """How many choices the form has."""
    check_form(form)
    return choice_total(form)


def flat_leaves(form):
    """How many leaves the flat form of the form has."""
    check_form(form)
    return flat_size(form)[2]
