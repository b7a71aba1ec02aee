"""Texts of forms and of ends."""

from alldeeds.checks import check_ends, check_form, check_text
from alldeeds.formparts import is_leaf
from alldeeds.formreading import take_ends, take_form, told_ends, told_form
from alldeeds.reading import Reader

WORD_SIGNS = {
    "both": "*",
    "between": "|",
    "offered": "&",
    "chosen": "+",
    "pair": "*",
    "sum": "+",
    "offer": "&",
    "to": "->",
}


def written(form):
    """The text of what is known to be a form or a kind."""
    if form[0] == "good":
        return form[1]
    if form[0] == "counter":
        return form[1] + "~"
    return written_half(form[1]) + " " + WORD_SIGNS[form[0]] + " " + written_half(form[2])


def written_half(form):
    """The text of a form or a kind that is a half."""
    if is_leaf(form):
        return written(form)
    return "(" + written(form) + ")"


def form_text(form):
    """The text of the form."""
    check_form(form)
    return written(form)


def read_form(text):
    """The form of the text."""
    check_text(text)
    reader = Reader(text)
    part = take_form(reader)
    reader.finish()
    return told_form(part)


def ends_text(ends):
    """The text of the ends."""
    check_ends(ends)
    return ", ".join([written(form) for form in ends])


def read_ends(text):
    """The list of the forms of the text."""
    check_text(text)
    reader = Reader(text)
    parts = take_ends(reader)
    reader.finish()
    return told_ends(parts)
