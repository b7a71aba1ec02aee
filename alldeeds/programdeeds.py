"""The deeds of programs."""

from alldeeds.checking import Program
from alldeeds.deeds import Deed
from alldeeds.errors import BadValue, TooMany
from alldeeds.formparts import MOST_LEAVES, leaf_count
from alldeeds.kindparts import form_told
from alldeeds.labelling import ordered
from alldeeds.programmed import OWN, Maker


def check_is_program(program):
    """Raises BadValue for what is no Program."""
    if not isinstance(program, Program):
        raise BadValue(program)


def forms_of_program(program):
    """The list of the forms of the kinds of the inputs and of the term."""
    return [form_told(kind) for _, kind in program.inputs] + [form_told(program.kind)]


def check_leaves(program):
    """Raises TooMany if the ends of the deed of the Program would have too many leaves."""
    if sum([leaf_count(form) for form in forms_of_program(program)]) > MOST_LEAVES:
        raise TooMany(MOST_LEAVES)


def deed_of_program(program):
    """The Deed of the Program."""
    check_is_program(program)
    check_leaves(program)
    told = Maker(program).deed_of_term(program.term, ())
    names = [name for name, _ in program.inputs]
    return Deed(ordered(told, tuple(names) + (OWN,)).steps)
