"""What terms and inputs of programs are made of; those functions that say "value" trust nothing."""

from alldeeds.errors import BadValue
from alldeeds.formparts import DEEPEST, fits_name
from alldeeds.kindparts import fits_kind
from alldeeds.values import is_list

TEXT_WORDS = ("let", "in", "fn", "case", "of", "or", "left", "right", "first", "second")
# for each word what stands behind it in the term, in order
SLOTS = {
    "name": ("name",),
    "pair": ("part", "part"),
    "let": ("name", "name", "part", "part"),
    "fn": ("name", "kind", "part"),
    "apply": ("part", "part"),
    "left": ("part", "kind"),
    "right": ("part", "kind"),
    "case": ("part", "name", "part", "name", "part"),
    "ways": ("part", "part"),
    "first": ("part",),
    "second": ("part",),
}


def is_own_name(value):
    """Whether the value is a name that a thing of a program may have."""
    return fits_name(value) and value not in TEXT_WORDS


def slots_of(value):
    """The list of pairs of a slot and what stands in it, None if the value has not the shape of a term."""
    if not isinstance(value, tuple) or not value or not isinstance(value[0], str):
        return None
    slots = SLOTS.get(value[0], ())
    if not slots or len(value) != 1 + len(slots):
        return None
    return list(zip(slots, value[1:]))


def fits_slot(slot, value):
    """Whether the value may stand in the slot; what stands for a part is not looked at."""
    if slot == "name":
        return is_own_name(value)
    return slot == "part" or fits_kind(value, DEEPEST)


def fits_term(value):
    """Whether the value is a term."""
    waiting = [value]
    while waiting:
        pairs = slots_of(waiting.pop())
        if pairs is None or not all([fits_slot(slot, told) for slot, told in pairs]):
            return False
        waiting.extend([told for slot, told in pairs if slot == "part"])
    return True


def names_in_term(term):
    """The list of all names in the term, as often as they occur."""
    names = []
    for slot, told in slots_of(term):
        if slot == "name":
            names.append(told)
        elif slot == "part":
            names.extend(names_in_term(told))
    return names


def with_parts(term, change):
    """The term with what the change tells for each of its parts."""
    return term[:1] + tuple([change(told) if slot == "part" else told for slot, told in slots_of(term)])


def is_input(value):
    """Whether the value is a pair of a name and a kind."""
    return isinstance(value, tuple) and len(value) == 2 and is_own_name(value[0]) and fits_kind(value[1], DEEPEST)


def check_program(inputs, term):
    """Raises BadValue for what are no inputs of a program, and for what is no term."""
    if not is_list(inputs) or not all([is_input(pair) for pair in inputs]):
        raise BadValue(inputs)
    if len({name for name, _ in inputs}) < len(inputs):
        raise BadValue(inputs)
    if not fits_term(term):
        raise BadValue(term)
