"""Kinds of the things of programs, and their forms."""

from alldeeds.checks import check_form, check_text
from alldeeds.errors import BadValue
from alldeeds.formparts import DEEPEST, goods_of
from alldeeds.formreading import take_kind, told_form
from alldeeds.formtexts import written
from alldeeds.kindparts import fits_kind, form_told, kind_counted, kind_given
from alldeeds.reading import Reader


def is_kind(value):
    """Whether any value is a kind."""
    return fits_kind(value, DEEPEST)


def check_kind(kind):
    """Raises BadValue for what is no kind."""
    if not fits_kind(kind, DEEPEST):
        raise BadValue(kind)


def form_of_kind(kind):
    """The form of the kind."""
    check_kind(kind)
    return form_told(kind)


def kind_of_form(form):
    """The kind with this form, None if it is not given."""
    check_form(form)
    return kind_given(form)


def kind_taken(form):
    """The kind whose form is the counter of this one, None if it is not taken."""
    check_form(form)
    return kind_counted(form)


def kind_text(kind):
    """The text of the kind."""
    check_kind(kind)
    return written(kind)


def read_kind(text):
    """The kind of the text."""
    check_text(text)
    reader = Reader(text)
    part = take_kind(reader)
    reader.finish()
    return told_form(part)


def goods_in(kind):
    """The tuple of the names of the goods in the kind, ascending, each once."""
    check_kind(kind)
    return tuple(sorted(set(goods_of(kind))))
