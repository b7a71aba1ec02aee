"""Arguments that many functions take are looked at here."""

from alldeeds.errors import BadValue
from alldeeds.formparts import DEEPEST, fits_ends, fits_form, fits_name


def check_form(form):
    """Raises BadValue for what is no form."""
    if not fits_form(form, DEEPEST):
        raise BadValue(form)


def check_forms(forms):
    """Raises BadValue for what is no dict from names to forms."""
    if not isinstance(forms, dict):
        raise BadValue(forms)
    for name in forms:
        if not fits_name(name) or not fits_form(forms[name], DEEPEST):
            raise BadValue(forms)


def check_ends(ends):
    """Raises BadValue for what are no ends."""
    if not fits_ends(ends):
        raise BadValue(ends)


def check_text(text):
    """Raises BadValue for what is no string."""
    if not isinstance(text, str):
        raise BadValue(text)
