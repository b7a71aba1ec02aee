"""Deeds read back as programs."""

from alldeeds.checking import Program
from alldeeds.deeds import check_deed, steps_of
from alldeeds.errors import NotOfProgram
from alldeeds.kindparts import kind_counted, kind_given
from alldeeds.midway import check_no_hand
from alldeeds.termmaking import inputs_and_term


def program_of_deed(deed):
    """The Program of the deed."""
    check_deed(deed)
    for at, end in enumerate(deed.ends):
        if kind_given(end) is None and kind_counted(end) is None:
            raise NotOfProgram(at)
    check_no_hand(deed)
    inputs, term = inputs_and_term(steps_of(deed))
    return Program(inputs, term)
