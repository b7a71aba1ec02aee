"""Middles: a form at which a deed is parted in two."""

from alldeeds.deeds import Deed, check_deed, steps_of
from alldeeds.errors import BadValue, HasHand, TooDeep, TooMany
from alldeeds.formparts import DEEPEST, MOST_LEAVES, depth_of, goods_of, leaf_count
from alldeeds.labelling import ordered
from alldeeds.middles import MIDDLE, told_middle
from alldeeds.turning import turned
from alldeeds.values import is_list, is_number_below


class Midway:
    """A middle, and a left deed and a right deed for it."""

    def __init__(self, form, one, other):
        self.form = form
        self.one = one
        self.other = other


def is_ascending_part(value, many):
    """Whether the value is an ascending list of some of so many numbers, at least one and not all."""
    if not is_list(value) or not 0 < len(value) < many:
        return False
    if not all([is_number_below(number, many) for number in value]):
        return False
    return list(value) == sorted(set(value))


def check_no_hand(deed):
    """Raises HasHand if the deed has a hand on."""
    for at, step in enumerate(steps_of(deed)):
        if step[0] == "hand":
            raise HasHand(at + 1)


def checked_middle(deed, left):
    """The told middle with its deeds; BadValue and HasHand as they come."""
    check_deed(deed)
    if not is_ascending_part(left, len(deed.ends)):
        raise BadValue(left)
    check_no_hand(deed)
    return told_middle(deed, left)


def right_ends(deed, left):
    """The list of the numbers of the ends that are not left."""
    return [end for end in range(len(deed.ends)) if end not in left]


def check_depth(form):
    """Raises TooDeep for what is no form because of its depth."""
    if depth_of(form) > DEEPEST:
        raise TooDeep(DEEPEST)


def midway(deed, left):
    """The told middle with a left deed and a right deed."""
    middle = checked_middle(deed, left)
    check_depth(middle.form)
    right = right_ends(deed, left)
    for numbers in (left, right):
        many = leaf_count(middle.form) + sum([leaf_count(deed.ends[end]) for end in numbers])
        if many > MOST_LEAVES:
            raise TooMany(MOST_LEAVES)
    one = ordered(middle.one, tuple([(end,) for end in left]) + (MIDDLE,))
    other = ordered(middle.other, (MIDDLE,) + tuple([(end,) for end in right]))
    return Midway(middle.form, Deed(one.steps), Deed(other.steps))


def middle_form(deed, left):
    """The told middle."""
    form = checked_middle(deed, left).form
    check_depth(form)
    if leaf_count(form) > MOST_LEAVES:
        raise TooMany(MOST_LEAVES)
    return form


def crossing_goods(deed, left):
    """The ascending tuple of the goods that some wiring links between left ends and right ends."""
    # each link step is met by some wiring, and so is each leaf of the told middle
    return tuple(sorted(set(goods_of(checked_middle(deed, left).form))))


def rejoined(deed, left):
    """The Deed that hands the left deed on to the right deed, with the ends of the deed in their order."""
    half = midway(deed, left)
    hand = ("hand", half.one.steps, half.other.steps, len(half.one.ends) - 1, 0)
    ends = list(left) + right_ends(deed, left)
    return Deed(turned(hand, tuple([ends.index(end) for end in range(len(deed.ends))])))
