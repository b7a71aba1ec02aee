"""Texts of programs."""

from alldeeds.checks import check_text
from alldeeds.errors import BadValue
from alldeeds.reading import Reader
from alldeeds.termreading import take_program
from alldeeds.terms import check_program, fits_term
from alldeeds.termwriting import written_program, written_term


def is_term(value):
    """Whether any value is a term, right or wrong."""
    return fits_term(value)


def term_text(term):
    """The text of the term."""
    if not fits_term(term):
        raise BadValue(term)
    return written_term(term)


def read_program(text):
    """The pair of the inputs and the term of the text."""
    check_text(text)
    reader = Reader(text)
    part = take_program(reader)
    reader.finish()
    return part.told()


def program_text(inputs, term):
    """The text of the inputs and the term."""
    check_program(inputs, term)
    return written_program(inputs, term)
