"""Items of files, and their deeds."""

from alldeeds.checking import Program
from alldeeds.deeds import Deed
from alldeeds.errors import BadValue, DeedError
from alldeeds.formparts import fits_ends, fits_name
from alldeeds.programdeeds import check_leaves, deed_of_program
from alldeeds.values import is_list

ITEM_LENGTHS = {"ends": 3, "deed": 3, "program": 4}


def fits_steps(value):
    """Whether the value is the steps of a Deed."""
    try:
        Deed(value)
    except DeedError:
        return False
    return True


def fits_program(inputs, term):
    """Whether they are the inputs and the term of a Program whose deed's ends are not too great."""
    try:
        check_leaves(Program(inputs, term))
    except DeedError:
        return False
    return True


def fits_item(value):
    """Whether the value is an item; a list may stand for it, its ends and its inputs."""
    if not is_list(value) or not value or not isinstance(value[0], str):
        return False
    if len(value) != ITEM_LENGTHS.get(value[0]) or not fits_name(value[1]):
        return False
    if value[0] == "ends":
        return fits_ends(value[2])
    return fits_steps(value[2]) if value[0] == "deed" else fits_program(value[2], value[3])


def check_file(file):
    """Raises BadValue for what is no file."""
    if not is_list(file) or not all([fits_item(item) for item in file]):
        raise BadValue(file)
    if len({item[1] for item in file}) < len(file):
        raise BadValue(file)


def program_of_item(item):
    """The Program of a program item."""
    return Program(item[2], item[3])


def deed_of_item(item):
    """The Deed of an item, None if it is one of ends."""
    if item[0] == "ends":
        return None
    return Deed(item[2]) if item[0] == "deed" else deed_of_program(program_of_item(item))


def items_by_name(file):
    """The dict from the names of the items to these."""
    return {item[1]: item for item in file}
