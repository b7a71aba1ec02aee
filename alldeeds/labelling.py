"""Steps whose ends have labels, so that they can be told by these whatever their order is."""

from alldeeds.passing import rest_of_rows, with_numbers
from alldeeds.turning import turned


class Labelled:
    """Steps, and the tuple of the labels of their ends, which are all unlike."""

    def __init__(self, steps, labels):
        self.steps = steps
        self.labels = labels


def ordered(one, labels):
    """The steps with their ends in the order of the labels."""
    return Labelled(turned(one.steps, tuple([one.labels.index(label) for label in labels])), labels)


def made_of(step, rows, halves, made):
    """The step at the ends with the labels of the halves; the end that it makes has a label of its own."""
    numbered = with_numbers(step, rows, halves)
    return Labelled(numbered, rest_of_rows(numbered, rows) + (made,))


def both_of(one, other, halves, made):
    """The both of two ends."""
    return made_of(("both", one.steps, other.steps), (one.labels, other.labels), halves, made)


def between_of(one, halves, made):
    """The between of two ends."""
    return made_of(("between", one.steps), (one.labels,), halves, made)


def offer_of(one, other, halves, made):
    """The offer of two ends; the other steps are turned if they have the rest in another order."""
    rest = tuple([label for label in one.labels if label != halves[0]])
    if tuple([label for label in other.labels if label != halves[1]]) != rest:
        other = ordered(other, rest + (halves[1],))
    return made_of(("offer", one.steps, other.steps), (one.labels, other.labels), halves, made)


def choose_of(one, halves, side, form, made):
    """The choose of the half on this side, beside the form."""
    return made_of(("choose", one.steps, None, side, form), (one.labels,), halves, made)


def hand_of(one, other, halves):
    """The hand on of two ends."""
    rows = (one.labels, other.labels)
    numbered = with_numbers(("hand", one.steps, other.steps), rows, halves)
    return Labelled(numbered, rest_of_rows(numbered, rows))
