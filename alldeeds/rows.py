"""Rows of middles: a deed parted in several deeds that are handed on to one another."""

from alldeeds.deeds import Deed, check_deed
from alldeeds.errors import BadValue, Unlike
from alldeeds.formparts import counter_of
from alldeeds.midway import check_no_hand, is_ascending_part, midway
from alldeeds.values import is_list, is_order


def fits_lists(value, many):
    """Whether the value has two or more lists in which each of so many numbers stands just once."""
    if not is_list(value) or not all([is_ascending_part(numbers, many) for numbers in value]):
        return False
    return is_order([number for numbers in value for number in numbers], many)


def midways(deed, lists):
    """The tuple of the middles and the tuple of the Deeds of a row."""
    check_deed(deed)
    if not fits_lists(lists, len(deed.ends)):
        raise BadValue(lists)
    check_no_hand(deed)
    middles, row = [], [deed]
    # the ends of the last deed of the row by their numbers in the whole deed; -1 is the middle ahead
    ends = list(range(len(deed.ends)))
    ahead = []
    for numbers in lists[:-1]:
        left = ahead + list(numbers)
        half = midway(row.pop(), tuple([ends.index(number) for number in left]))
        middles.append(half.form)
        row.extend([half.one, half.other])
        ends = [-1] + [number for number in ends if number not in left]
        ahead = [-1]
    return (tuple(middles), tuple(row))


def check_row(deeds):
    """Raises Unlike for Deeds that cannot be handed on to one another."""
    for one, other in zip(deeds[:-1], deeds[1:]):
        if counter_of(one.ends[-1]) != other.ends[0]:
            raise Unlike()
    if any([len(deed.ends) == 1 for deed in deeds[1:-1]]):
        raise Unlike()
    if sum([len(deed.ends) for deed in deeds]) == 2 * len(deeds) - 2:
        raise Unlike()


def joined_row(deeds):
    """The Deed that hands the Deeds on to one another, one behind the other."""
    if not is_list(deeds) or len(deeds) < 2:
        raise BadValue(deeds)
    for deed in deeds:
        check_deed(deed)
    check_row(deeds)
    steps = deeds[0].steps
    last = len(deeds[0].ends) - 1
    for deed in deeds[1:]:
        steps = ("hand", steps, deed.steps, last, 0)
        last += len(deed.ends) - 2
    return Deed(steps)
