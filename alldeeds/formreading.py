"""Reading forms and ends within a longer text."""

from alldeeds.errors import TooDeep, TooMany
from alldeeds.formparts import DEEPEST, MOST_LEAVES

SIGN_WORDS = {"*": "both", "|": "between", "&": "offered", "+": "chosen"}
SIGNS = "*|&+"


class Written:
    """A form as it is written: None stands for a form that is too deep."""

    def __init__(self, form, depth, leaves):
        self.form = form
        self.depth = depth
        self.leaves = leaves


def take_leaf(reader):
    """The good or counter that stands next."""
    name = reader.take_name()
    if reader.sees("~"):
        reader.take("~")
        return Written(("counter", name), 0, 1)
    return Written(("good", name), 0, 1)


def grouped(half, other):
    """The form of two halves, the first one with the sign behind it."""
    left, sign = half
    depth = 1 + max(left.depth, other.depth)
    leaves = left.leaves + other.leaves
    if depth > DEEPEST:
        return Written(None, depth, leaves)
    return Written((SIGN_WORDS[sign], left.form, other.form), depth, leaves)


def take_form(reader):
    """The form that stands next, with the spaces around it, as Written."""
    # one item for each open bracket, and one for the whole: None, or the left half and its sign
    halves = [None]
    while True:
        reader.skip_spaces()
        if reader.sees("("):
            reader.take("(")
            halves.append(None)
            continue
        part = take_leaf(reader)
        reader.skip_spaces()
        while len(halves) > 1 and halves[-1] is not None:
            reader.take(")")
            reader.skip_spaces()
            part = grouped(halves.pop(), part)
        if halves[-1] is not None:
            return grouped(halves[-1], part)
        if len(halves) == 1 and part.depth == 0 and not reader.sees(SIGNS):
            return part
        halves[-1] = (part, reader.take(SIGNS))


def take_ends(reader):
    """The forms that stand next, as Written, with "," between."""
    parts = [take_form(reader)]
    while reader.sees(","):
        reader.take(",")
        parts.append(take_form(reader))
    return parts


def told_form(part):
    """The form that is written."""
    if part.depth > DEEPEST:
        raise TooDeep(DEEPEST)
    return part.form


def told_ends(parts):
    """The list of the forms that are written."""
    forms = [told_form(part) for part in parts]
    if sum([part.leaves for part in parts]) > MOST_LEAVES:
        raise TooMany(MOST_LEAVES)
    return forms
