"""Deeds: trees of steps over ends."""

from alldeeds.checks import check_form, check_forms
from alldeeds.errors import BadValue, TooDeep, TooMany, Unlike, WrongStep
from alldeeds.formparts import DEEPEST, MOST_LEAVES, depth_of, depth_with, form_with, leaf_count, leaf_count_with
from alldeeds.plainsteps import plain_steps
from alldeeds.stepping import depth_of_steps, ends_in_order, numbers_within, steps_in_order, with_steps
from alldeeds.values import is_number_below

MOST_STEPS = 400
MOST_DEPTH = 100


class Deed:
    """A deed: its steps, none of which is wrong, and its ends."""

    def __init__(self, steps):
        found = steps_in_order(steps, MOST_STEPS)
        if len(found) > MOST_STEPS:
            raise TooMany(MOST_STEPS)
        if depth_of_steps(found) > MOST_DEPTH:
            raise TooDeep(MOST_DEPTH)
        told = ends_in_order(found)
        if told[-1] is None:
            raise WrongStep(len(told))
        self.steps = steps
        self.ends = told[-1]

    def __eq__(self, other):
        return isinstance(other, Deed) and self.steps == other.steps

    def size(self):
        """How many steps it has."""
        return len(steps_of(self))


def steps_of(deed):
    """The list of all steps of the Deed in the order of their numbers."""
    return steps_in_order(deed.steps, MOST_STEPS)


def check_deed(deed):
    """Raises BadValue for what is no Deed."""
    if not isinstance(deed, Deed):
        raise BadValue(deed)


def check_step_number(deed, at):
    """Raises BadValue for what is no number of a step of the deed."""
    if not is_number_below(at, deed.size() + 1) or at == 0:
        raise BadValue(at)


def step_of(deed, at):
    """The Deed of the step with this number."""
    check_deed(deed)
    check_step_number(deed, at)
    return Deed(steps_of(deed)[at - 1])


def rebuilt(deed, change):
    """The Deed in which each step, its steps within rebuilt ahead, is what the change tells for it."""
    found = steps_of(deed)
    made = []
    for at, within in enumerate(numbers_within(found)):
        made.append(change(at + 1, with_steps(found[at], [made[number] for number in within])))
    return Deed(made[-1])


def replaced(deed, at, other):
    """The Deed in which the step with this number is the other Deed."""
    check_deed(deed)
    check_step_number(deed, at)
    check_deed(other)
    if step_of(deed, at).ends != other.ends:
        raise Unlike()
    return rebuilt(deed, lambda number, step: other.steps if number == at else step)


def plain_deed(form):
    """The plain Deed of the form."""
    check_form(form)
    if 2 * leaf_count(form) > MOST_LEAVES:
        raise TooMany(MOST_LEAVES)
    return Deed(plain_steps(form))


def check_replacing(deed, forms):
    """Raises TooDeep or TooMany if a step with the forms in it would have no ends."""
    depths = {name: depth_of(forms[name]) for name in forms}
    counts = {name: leaf_count(forms[name]) for name in forms}
    told = ends_in_order(steps_of(deed))
    for ends in told:
        if max([depth_with(end, depths) for end in ends]) > DEEPEST:
            raise TooDeep(DEEPEST)
    for ends in told:
        if sum([leaf_count_with(end, counts) for end in ends]) > MOST_LEAVES:
            raise TooMany(MOST_LEAVES)


def step_with(step, forms):
    """The step itself with the forms in the places of goods."""
    if step[0] == "link" and step[1] in forms:
        return plain_steps(forms[step[1]])
    if step[0] == "choose":
        return step[:4] + (form_with(step[4], forms),)
    return step


def deed_with_forms(deed, forms):
    """The Deed in which goods are replaced by the forms that are told for their names."""
    check_deed(deed)
    check_forms(forms)
    check_replacing(deed, forms)
    return rebuilt(deed, lambda number, step: step_with(step, forms))
