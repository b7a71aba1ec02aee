"""Steps: their order, their depths, and the ends that they have.

A wrong step is told by None in the place of its ends.
"""

from alldeeds.formparts import counter_of, fits_ends
from alldeeds.values import is_number_below, is_order, is_side

LENGTHS = {"link": 2, "both": 5, "between": 4, "offer": 5, "choose": 5, "hand": 5, "turn": 3}
WITHIN = {"link": 0, "both": 2, "between": 1, "offer": 2, "choose": 1, "hand": 2, "turn": 1}


def has_shape(value):
    """Whether the value is a tuple with the word and the length of a step."""
    if not isinstance(value, tuple) or not value or not isinstance(value[0], str):
        return False
    return LENGTHS.get(value[0]) == len(value)


def steps_within(value):
    """The steps directly within a step, right or wrong."""
    if not has_shape(value):
        return ()
    return value[1:1 + WITHIN[value[0]]]


def steps_in_order(steps, most):
    """The list of all steps in the order of their numbers; some more than the most if there are more.

    One tuple may stand in a deed so often that the steps cannot be counted one by one.
    """
    found = []
    waiting = [steps]
    while waiting and len(found) <= most:
        step = waiting.pop()
        found.append(step)
        waiting.extend(steps_within(step))
    return found[::-1]


def taken_from(waiting, many):
    """The last ones of what waits, as many as are told, taken away from it."""
    start = len(waiting) - many
    last = waiting[start:]
    del waiting[start:]
    return last


def depth_of_steps(found):
    """The depth of the deed with these steps in order."""
    waiting = []
    for step in found:
        depths = taken_from(waiting, len(steps_within(step)))
        waiting.append(1 + max(depths, default=0))
    return waiting[0]


def numbers_within(found):
    """For each of the steps in order the tuple of the places, from 0 on, of those directly within."""
    waiting = []
    within = []
    for at, step in enumerate(found):
        within.append(tuple(taken_from(waiting, len(steps_within(step)))))
        waiting.append(at)
    return within


def with_steps(step, within):
    """The step with these steps within in the place of its own ones."""
    return (step[0],) + tuple(within) + step[1 + len(within):]


def without(ends, at):
    """The ends but the one with this number."""
    return ends[:at] + ends[at + 1:]


def link_ends(step, within):
    """The ends of a link; whether its name is one is seen by the whole ends."""
    return (("good", step[1]), ("counter", step[1]))


def are_numbers(step, within):
    """Whether the step has the number of an end of each of the two within."""
    return is_number_below(step[3], len(within[0])) and is_number_below(step[4], len(within[1]))


def both_ends(step, within):
    """The ends of a both."""
    if not are_numbers(step, within):
        return None
    one, other = within
    i, j = step[3], step[4]
    return without(one, i) + without(other, j) + (("both", one[i], other[j]),)


def between_ends(step, within):
    """The ends of a between."""
    one = within[0]
    i, j = step[2], step[3]
    if not is_number_below(i, len(one)) or not is_number_below(j, len(one)) or i == j:
        return None
    rest = [end for at, end in enumerate(one) if at not in (i, j)]
    return tuple(rest) + (("between", one[i], one[j]),)


def offer_ends(step, within):
    """The ends of an offer."""
    if not are_numbers(step, within):
        return None
    one, other = within
    i, j = step[3], step[4]
    if without(one, i) != without(other, j):
        return None
    return without(one, i) + (("offered", one[i], other[j]),)


def choose_ends(step, within):
    """The ends of a choose; whether its form is one is seen by the whole ends."""
    one = within[0]
    i, side, form = step[2], step[3], step[4]
    if not is_number_below(i, len(one)) or not is_side(side):
        return None
    if side == 0:
        return without(one, i) + (("chosen", one[i], form),)
    return without(one, i) + (("chosen", form, one[i]),)


def hand_ends(step, within):
    """The ends of a hand on."""
    if not are_numbers(step, within):
        return None
    one, other = within
    i, j = step[3], step[4]
    if counter_of(one[i]) != other[j]:
        return None
    return without(one, i) + without(other, j)


def turn_ends(step, within):
    """The ends of a turn."""
    one = within[0]
    order = step[2]
    if not isinstance(order, tuple) or not is_order(order, len(one)):
        return None
    return tuple([one[at] for at in order])


MAKERS = {
    "link": link_ends,
    "both": both_ends,
    "between": between_ends,
    "offer": offer_ends,
    "choose": choose_ends,
    "hand": hand_ends,
    "turn": turn_ends,
}


def ends_of_step(step, within):
    """The ends of the step, of which the steps within have these ends; None if it is wrong."""
    if not has_shape(step):
        return None
    maker = MAKERS[step[0]]
    ends = maker(step, within)
    if not fits_ends(ends):
        return None
    return ends


def ends_in_order(found):
    """The ends of each of the steps in order, up to the first wrong one, which has None."""
    waiting = []
    told = []
    for step in found:
        ends = ends_of_step(step, taken_from(waiting, len(steps_within(step))))
        told.append(ends)
        if ends is None:
            return told
        waiting.append(ends)
    return told
