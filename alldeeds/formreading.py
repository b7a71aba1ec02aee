"""Reading forms, ends and kinds within a longer text.

The words tell for each sign what is made of the halves at its sides; with "~"
among them, a name with this sign behind it is a counter.
"""

from alldeeds.errors import TooDeep, TooMany
from alldeeds.formparts import DEEPEST, MOST_LEAVES

FORM_WORDS = {"*": "both", "|": "between", "&": "offered", "+": "chosen", "~": "counter"}
KIND_WORDS = {"*": "pair", "+": "sum", "&": "offer", "->": "to"}


class Written:
    """A form or a kind as it is written: None stands for one that is too deep."""

    def __init__(self, form, depth, leaves):
        self.form = form
        self.depth = depth
        self.leaves = leaves


def take_leaf(reader, words):
    """The good or counter that stands next."""
    name = reader.take_name()
    if "~" in words and reader.sees("~"):
        reader.take("~")
        return Written((words["~"], name), 0, 1)
    return Written(("good", name), 0, 1)


def take_sign(reader, words, begins):
    """The word of the sign between two halves that stands next; the signs begin with these."""
    first = reader.take(begins)
    told = [sign for sign in words if sign[0] == first][0]
    for more in told[1:]:
        reader.take(more)
    return words[told]


def grouped(half, other):
    """The form of two halves, the first one with the word of the sign behind it."""
    left, word = half
    depth = 1 + max(left.depth, other.depth)
    leaves = left.leaves + other.leaves
    if depth > DEEPEST:
        return Written(None, depth, leaves)
    return Written((word, left.form, other.form), depth, leaves)


def take_halved(reader, words):
    """What stands next, with the spaces around it, as Written."""
    begins = [sign[0] for sign in words if sign != "~"]
    # one item for each open bracket, and one for the whole: None, or the left half and its word
    halves = [None]
    while True:
        reader.skip_spaces()
        if reader.sees("("):
            reader.take("(")
            halves.append(None)
            continue
        part = take_leaf(reader, words)
        reader.skip_spaces()
        while len(halves) > 1 and halves[-1] is not None:
            reader.take(")")
            reader.skip_spaces()
            part = grouped(halves.pop(), part)
        if halves[-1] is not None:
            return grouped(halves[-1], part)
        if len(halves) == 1 and part.depth == 0 and not reader.sees(begins):
            return part
        halves[-1] = (part, take_sign(reader, words, begins))


def take_form(reader):
    """The form that stands next, with the spaces around it, as Written."""
    return take_halved(reader, dict(FORM_WORDS))


def take_kind(reader):
    """The kind that stands next, with the spaces around it, as Written."""
    return take_halved(reader, dict(KIND_WORDS))


def take_ends(reader):
    """The forms that stand next, as Written, with "," between."""
    parts = [take_form(reader)]
    while reader.sees(","):
        reader.take(",")
        parts.append(take_form(reader))
    return parts


def told_form(part):
    """The form or the kind that is written."""
    if part.depth > DEEPEST:
        raise TooDeep(DEEPEST)
    return part.form


def told_ends(parts):
    """The list of the forms that are written."""
    forms = [told_form(part) for part in parts]
    if sum([part.leaves for part in parts]) > MOST_LEAVES:
        raise TooMany(MOST_LEAVES)
    return forms
