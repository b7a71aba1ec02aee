"""Ends: their leaves, forks and choices."""

from alldeeds.checks import check_ends
from alldeeds.errors import BadValue, TooMany
from alldeeds.formparts import choice_total
from alldeeds.layouts import Layout, choices_within, fits_choice, met_numbers, settled_form

MOST_CHOICES = 1000


def leaves(ends):
    """The tuple of the leaves as forms."""
    check_ends(ends)
    return tuple([leaf.form for leaf in Layout(ends).leaves])


def forks(ends):
    """The tuple of the words of the forks."""
    check_ends(ends)
    return tuple([fork.word for fork in Layout(ends).forks])


def leaf_ends(ends):
    """The tuple of the numbers of the ends in which the leaves stand."""
    check_ends(ends)
    return tuple([leaf.node[0] for leaf in Layout(ends).leaves])


def fork_ends(ends):
    """The tuple of the numbers of the ends in which the forks stand."""
    check_ends(ends)
    return tuple([fork.node[0] for fork in Layout(ends).forks])


def above_leaves(ends):
    """For each leaf the forks above it, each with the side on which it stands."""
    check_ends(ends)
    return tuple([leaf.above for leaf in Layout(ends).leaves])


def above_forks(ends):
    """For each fork the forks above it, each with the side on which it stands."""
    check_ends(ends)
    return tuple([fork.above for fork in Layout(ends).forks])


def choices(ends):
    """The tuple of all choices, ascending."""
    check_ends(ends)
    many = 1
    for form in ends:
        many = many * choice_total(form)
    if many > MOST_CHOICES:
        raise TooMany(MOST_CHOICES)
    found = [()]
    for root in Layout(ends).roots:
        found = [one + other for one in found for other in choices_within(root)]
    return tuple(sorted(found))


def is_choice(ends, value):
    """Whether any value is a choice of the ends."""
    check_ends(ends)
    return fits_choice(Layout(ends), value)


def laid_for(ends, choice):
    """The layout of the ends; BadValue for what is no choice of them."""
    check_ends(ends)
    layout = Layout(ends)
    if not fits_choice(layout, choice):
        raise BadValue(choice)
    return layout


def met_leaves(ends, choice):
    """The ascending tuple of the numbers of the leaves that are met."""
    return tuple(met_numbers(laid_for(ends, choice), choice))


def settled(ends, choice):
    """The tuple of the ends in which each fork is replaced by its half on the chosen side."""
    layout = laid_for(ends, choice)
    sides = dict(choice)
    return tuple([settled_form(root, sides) for root in layout.roots])
