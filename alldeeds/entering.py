"""Entries: made of a choice and of things at leaves, and taken apart into these again."""

from alldeeds.formparts import FORK_WORDS, goods_of, is_leaf
from alldeeds.values import is_integer, is_number_below, is_side, is_whole

MOST_THINGS_LISTED = 3


def fits_sets(value, forms):
    """Whether the value has a set of at least one thing for each good in the forms."""
    if not isinstance(value, dict):
        return False
    names = [name for form in forms for name in goods_of(form)]
    return all([name in value and is_integer(value[name]) and value[name] > 0 for name in names])


def fits_listed_sets(value, forms):
    """Whether the value has sets for the goods in the forms that are small enough to list entries."""
    if not fits_sets(value, forms):
        return False
    return all([value[name] <= MOST_THINGS_LISTED for form in forms for name in goods_of(form)])


def fits_entry(form, sets, value):
    """Whether the value is an entry of the form; without sets any whole numbers are things."""
    if is_leaf(form):
        return is_whole(value) if sets is None else is_number_below(value, sets[form[1]])
    if not isinstance(value, tuple) or len(value) != 2:
        return False
    if form[0] in FORK_WORDS:
        return is_side(value[0]) and fits_entry(form[1 + value[0]], sets, value[1])
    return fits_entry(form[1], sets, value[0]) and fits_entry(form[2], sets, value[1])


def fits_entry_of_ends(ends, sets, value):
    """Whether the value is an entry of the ends; without sets any whole numbers are things."""
    if not isinstance(value, tuple) or len(value) != len(ends):
        return False
    return all([fits_entry(form, sets, part) for form, part in zip(ends, value)])


def parts_within(place, entry, choice, things):
    """Puts the sides and the things of the entry of the place behind the two lists."""
    if not place.halves:
        things.append((place.number, entry))
    elif place.word in FORK_WORDS:
        choice.append((place.number, entry[0]))
        parts_within(place.halves[entry[0]], entry[1], choice, things)
    else:
        for half, part in zip(place.halves, entry):
            parts_within(half, part, choice, things)


def entry_parts(layout, entry):
    """The choice of the entry of the ends, and the tuple of its things, each behind its leaf; both ascend."""
    choice, things = [], []
    for root, part in zip(layout.roots, entry):
        parts_within(root, part, choice, things)
    return (tuple(choice), tuple(things))


def entry_within(place, sides, things):
    """The entry of the place, with the sides of its forks and the things of its leaves."""
    if not place.halves:
        return things[place.number]
    if place.word in FORK_WORDS:
        side = sides[place.number]
        return (side, entry_within(place.halves[side], sides, things))
    left, right = place.halves
    return (entry_within(left, sides, things), entry_within(right, sides, things))


def entry_of_ends(layout, choice, things):
    """The entry of the ends with the choice and with a thing for each met leaf."""
    sides = dict(choice)
    return tuple([entry_within(root, sides, things) for root in layout.roots])
