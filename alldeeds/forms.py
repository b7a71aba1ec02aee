"""Forms: goods and counters, and both, between, offered and chosen of two halves."""

from alldeeds.checks import check_form, check_forms
from alldeeds.errors import TooDeep
from alldeeds.formparts import DEEPEST, counter_of, depth_of, depth_with, fits_form, fits_name, form_with, goods_of


def is_name(value):
    """Whether any value is a name."""
    return fits_name(value)


def is_form(value):
    """Whether any value is a form."""
    return fits_form(value, DEEPEST)


def counter(form):
    """The counter of the form."""
    check_form(form)
    return counter_of(form)


def depth(form):
    """The depth of the form."""
    check_form(form)
    return depth_of(form)


def goods(form):
    """The tuple of the names in the form, ascending, each once."""
    check_form(form)
    return tuple(sorted(set(goods_of(form))))


def with_forms(form, forms):
    """The form in which each good that is told is replaced by its form, and counters by its counter."""
    check_form(form)
    check_forms(forms)
    depths = {name: depth_of(forms[name]) for name in forms}
    if depth_with(form, depths) > DEEPEST:
        raise TooDeep(DEEPEST)
    return form_with(form, forms)
