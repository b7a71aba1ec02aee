"""Reducing: deeds without what was only handed on within them."""

from alldeeds.branches import first_hand, hand_numbers, tree_of, with_changed
from alldeeds.deeds import MOST_DEPTH, MOST_STEPS, Deed, check_deed
from alldeeds.errors import BadValue, TooDeep, TooMany
from alldeeds.formparts import MOST_LEAVES
from alldeeds.reductions import reduced_hand
from alldeeds.values import is_integer


def ready_hands(deed):
    """The ascending tuple of the numbers of the hand ons whose two steps have no hand on within."""
    check_deed(deed)
    return tuple(hand_numbers(tree_of(deed), 0))


def reduced_tree(tree, at):
    """The tree in which the ready hand on with this number is reduced; an error if it is no deed."""
    told = with_changed(tree, at, reduced_hand)
    if told.many > MOST_STEPS:
        raise TooMany(MOST_STEPS)
    if told.height > MOST_DEPTH:
        raise TooDeep(MOST_DEPTH)
    if not told.fits:
        raise TooMany(MOST_LEAVES)
    return told


def reduced(deed, at):
    """The Deed in which the ready hand on with this number is reduced."""
    if at not in ready_hands(deed) or not is_integer(at):
        raise BadValue(at)
    return Deed(reduced_tree(tree_of(deed), at).steps)


def without_hands(deed):
    """The Deed without hand ons to which the deed is reduced, and how often it is reduced."""
    check_deed(deed)
    tree = tree_of(deed)
    many = 0
    while tree.has_hand:
        tree = reduced_tree(tree, first_hand(tree))
        many += 1
    return (Deed(tree.steps) if many else deed, many)
