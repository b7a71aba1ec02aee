"""Deeds as trees of which one step is changed without looking at all others again."""

from alldeeds.deeds import steps_of
from alldeeds.stepping import ends_in_order, ends_of_step, steps_within, taken_from, with_steps


class Branch:
    """A step with the Branches of its steps within, its ends, and what is counted of it.

    The ends are None where they would be too great; then the Branch does not fit.
    """

    def __init__(self, step, within, ends):
        self.steps = with_steps(step, [branch.steps for branch in within])
        self.within = within
        self.ends = ends
        self.many = 1 + sum([branch.many for branch in within])
        self.height = 1 + max([branch.height for branch in within], default=0)
        self.has_hand = step[0] == "hand" or any([branch.has_hand for branch in within])
        self.fits = ends is not None and all([branch.fits for branch in within])


def branch_of(step, within):
    """The Branch of a step, with its own steps within or with anything in their place."""
    return Branch(step, within, ends_of_step(step, [branch.ends for branch in within]))


def tree_of(deed):
    """The Branch of the whole deed."""
    found = steps_of(deed)
    waiting = []
    for step, ends in zip(found, ends_in_order(found)):
        waiting.append(Branch(step, tuple(taken_from(waiting, len(steps_within(step)))), ends))
    return waiting[0]


def turned_branch(branch, order):
    """The Branch with its ends in this order; a turn of a turn is one turn, or none if it changes nothing."""
    unchanged = tuple(range(len(order)))
    if order == unchanged:
        return branch
    if branch.steps[0] != "turn":
        return branch_of(("turn", None, order), (branch,))
    joined = tuple([branch.steps[2][end] for end in order])
    return branch.within[0] if joined == unchanged else branch_of(("turn", None, joined), branch.within)


def hand_numbers(branch, ahead):
    """The ascending list of the numbers of the ready hand ons, when so many steps stand ahead of those within."""
    if not branch.has_hand:
        return []
    found = []
    for one in branch.within:
        found.extend(hand_numbers(one, ahead))
        ahead += one.many
    # what has a hand on, but none within, is one
    return found or [ahead + 1]


def first_hand(branch):
    """The least number of a hand on, which is ready, as all numbers within it are less."""
    ahead = 0
    for one in branch.within:
        if one.has_hand:
            return ahead + first_hand(one)
        ahead += one.many
    return branch.many


def with_changed(branch, at, change):
    """The Branch in which the step with this number is what the change makes of it, with the same ends."""
    if at == branch.many:
        return change(branch)
    within = []
    for one in branch.within:
        within.append(with_changed(one, at, change) if 0 < at <= one.many else one)
        at -= one.many
    return Branch(branch.steps, tuple(within), branch.ends)
