"""The wirings of steps, with numbers of leaves and forks that stay when ends move.

The number of a leaf or a fork is not its place in the ends, so a step that only
moves ends need not look at the wirings; choices and links are in no order.
"""

from alldeeds.errors import TooMany
from alldeeds.formparts import fork_count, leaf_count
from alldeeds.joining import handed_wirings, matches, opposites
from alldeeds.renumbering import Numbers
from alldeeds.stepping import steps_within, taken_from

MOST_WIRINGS = 2000


class Strands:
    """The ends of a step, each as the numbers of its leaves and of its forks, and its wirings."""

    def __init__(self, ends, wirings):
        self.ends = ends
        self.wirings = wirings


def check_many(many):
    """Raises TooMany if a deed has so many wirings."""
    if many > MOST_WIRINGS:
        raise TooMany(MOST_WIRINGS)


def without_ends(ends, numbers):
    """The ends but those with these numbers."""
    return [end for at, end in enumerate(ends) if at not in numbers]


def grouped_end(fork, left, right):
    """The end of two halves, with a fork of its own or with none."""
    return (left[0] + right[0], fork + left[1] + right[1])


def link_strands(step, within, numbers):
    """The strands of a link."""
    one, other = numbers.fresh(2)
    return Strands([((one,), ()), ((other,), ())], [((), ((one, other),))])


def both_strands(step, within, numbers):
    """The strands of a both."""
    one, other = within
    i, j = step[3], step[4]
    check_many(len(one.wirings) * len(other.wirings))
    wirings = [(c + d, k + m) for c, k in one.wirings for d, m in other.wirings]
    rest = without_ends(one.ends, [i]) + without_ends(other.ends, [j])
    return Strands(rest + [grouped_end((), one.ends[i], other.ends[j])], wirings)


def between_strands(step, within, numbers):
    """The strands of a between."""
    one = within[0]
    i, j = step[2], step[3]
    return Strands(without_ends(one.ends, [i, j]) + [grouped_end((), one.ends[i], one.ends[j])], one.wirings)


def shared_numbers(ends, others):
    """The dict from the numbers of the other ends to those of the same places in the ends."""
    shared = {}
    for end, other in zip(ends, others):
        for one, number in zip(end[0] + end[1], other[0] + other[1]):
            shared[number] = one
    return shared


def with_shared(wiring, shared):
    """The wiring with the shared numbers in the place of its own ones."""
    choice, links = wiring
    sides = [(shared.get(fork, fork), side) for fork, side in choice]
    pairs = [(shared.get(one, one), shared.get(other, other)) for one, other in links]
    return (tuple(sides), tuple(pairs))


def with_side(wirings, fork, side):
    """The wirings with the side of one more fork in their choices."""
    return [(choice + ((fork, side),), links) for choice, links in wirings]


def offer_strands(step, within, numbers):
    """The strands of an offer; the rest of both deeds becomes the same ends."""
    one, other = within
    i, j = step[3], step[4]
    check_many(len(one.wirings) + len(other.wirings))
    fork = numbers.fresh(1)
    rest = without_ends(one.ends, [i])
    shared = shared_numbers(rest, without_ends(other.ends, [j]))
    others = [with_shared(wiring, shared) for wiring in other.wirings]
    wirings = with_side(one.wirings, fork[0], 0) + with_side(others, fork[0], 1)
    return Strands(rest + [grouped_end(fork, one.ends[i], other.ends[j])], wirings)


def choose_strands(step, within, numbers):
    """The strands of a choose."""
    one = within[0]
    i, side, form = step[2], step[3], step[4]
    fork = numbers.fresh(1)
    halves = [one.ends[i], (numbers.fresh(leaf_count(form)), numbers.fresh(fork_count(form)))]
    made = grouped_end(fork, halves[side], halves[1 - side])
    return Strands(without_ends(one.ends, [i]) + [made], with_side(one.wirings, fork[0], side))


def hand_strands(step, within, numbers):
    """The strands of a hand on."""
    one, other = within
    i, j = step[3], step[4]
    end, counter = one.ends[i], other.ends[j]
    matched = matches(one.wirings, other.wirings, end[1], counter[1])
    check_many(sum([len(others) for _, others in matched]))
    wirings = handed_wirings(matched, opposites(end[0], counter[0]), opposites(end[1], counter[1]))
    return Strands(without_ends(one.ends, [i]) + without_ends(other.ends, [j]), wirings)


def turn_strands(step, within, numbers):
    """The strands of a turn."""
    one = within[0]
    return Strands([one.ends[at] for at in step[2]], one.wirings)


MAKERS = {
    "link": link_strands,
    "both": both_strands,
    "between": between_strands,
    "offer": offer_strands,
    "choose": choose_strands,
    "hand": hand_strands,
    "turn": turn_strands,
}


def strands_of(found):
    """The strands of the deed with these steps in order."""
    numbers = Numbers()
    waiting = []
    for step in found:
        maker = MAKERS[step[0]]
        waiting.append(maker(step, taken_from(waiting, len(steps_within(step))), numbers))
    return waiting[0]
