"""A hand on reduced to other steps with the same ends.

The ends of both steps that are handed on have labels here: the numbers from 0 on,
those of the first step ahead of those of the second one.
"""

from alldeeds.branches import Branch, branch_of, turned_branch
from alldeeds.passing import rest_of_rows, rows_within, with_numbers

# the labels of the two ends of which a step that is told again makes its last one
HALVES = (-1, -2)


def hand_of(pair, i, j):
    """The Branch of the hand on of the pair."""
    return branch_of(("hand", None, None, i, j), pair)


def over_link(hand, rows, which):
    """What is left where one of the two steps is a link: the other step, with the other end of the link."""
    ends = hand.steps[3:]
    across = 1 - which
    row = list(rows[across])
    row[ends[across]] = rows[which][1 - ends[which]]
    return (hand.within[across], tuple(row))


def hand_with(hand, rows, which, one, row):
    """The hand on with another step, which has the row, in the place of one of the two; and its row."""
    pair, numbers, two_rows = list(hand.within), list(hand.steps[3:]), list(rows)
    numbers[which] = row.index(rows[which][numbers[which]])
    pair[which] = one
    two_rows[which] = row
    told = hand_of(tuple(pair), numbers[0], numbers[1])
    return (told, rest_of_rows(told.steps, two_rows))


def inside_turn(hand, rows, which):
    """What is left where one of the two steps is a turn: the hand on of the step within it."""
    turn = hand.within[which]
    row = rows_within(turn.steps, rows[which], len(turn.ends), HALVES)[0]
    return hand_with(hand, rows, which, turn.within[0], row)


def told_again(hand, rows, which):
    """One of the two steps, which does not make the end, with the hand on moved to the steps within that have it."""
    step = hand.within[which]
    label = rows[which][hand.steps[3 + which]]
    within, new_rows = [], []
    below = rows_within(step.steps, rows[which], len(step.within[0].ends), HALVES)
    for one, row in zip(step.within, below):
        told = hand_with(hand, rows, which, one, row) if label in row else (one, row)
        within.append(told[0])
        new_rows.append(told[1])
    again = with_numbers(step.steps, new_rows, HALVES)
    return (branch_of(again, tuple(within)), rest_of_rows(again, new_rows) + rows[which][-1:])


def number_without(end, gone):
    """The number of an end when another one is gone."""
    return end - 1 if end > gone else end


def both_to_between(hand):
    """The two hand ons of a both and a between that make the ends."""
    (left, right), (joined,) = [one.within for one in hand.within]
    a, b = hand.within[0].steps[3:]
    c, d = hand.within[1].steps[2:]
    inner = hand_of((right, joined), b, d)
    last = len(right.ends) - 1 + number_without(c, d)
    return Branch(("hand", None, None, a, last), (left, inner), hand.ends)


def between_to_both(hand):
    """The two hand ons of a between and a both that make the ends."""
    (joined,), (left, right) = [one.within for one in hand.within]
    a, b = hand.within[0].steps[2:]
    c, d = hand.within[1].steps[3:]
    inner = hand_of((joined, left), a, c)
    return Branch(("hand", None, None, number_without(b, a), d), (inner, right), hand.ends)


def offer_to_choose(hand):
    """The hand on of the step of an offer that is chosen."""
    offer, choose = hand.within
    end, side = choose.steps[2:4]
    return hand_of((offer.within[side], choose.within[0]), offer.steps[3 + side], end)


def choose_to_offer(hand):
    """The hand on to the step of an offer that is chosen."""
    choose, offer = hand.within
    end, side = choose.steps[2:4]
    return hand_of((choose.within[0], offer.within[side]), end, offer.steps[3 + side])


MAKERS = {"both": both_to_between, "between": between_to_both, "offer": offer_to_choose, "choose": choose_to_offer}


def makes_end(hand, which):
    """Whether one of the two steps makes the end that is handed on."""
    return hand.steps[3 + which] == len(hand.within[which].ends) - 1


def reduced_row(hand, rows):
    """The steps to which the hand on is reduced, and the row of their ends."""
    for word, change in (("link", over_link), ("turn", inside_turn)):
        for which in (0, 1):
            if hand.within[which].steps[0] == word:
                return change(hand, rows, which)
    for which in (0, 1):
        if not makes_end(hand, which):
            return told_again(hand, rows, which)
    maker = MAKERS[hand.within[0].steps[0]]
    return (maker(hand), rest_of_rows(hand.steps, rows))


def reduced_hand(hand):
    """The Branch to which a ready hand on is reduced."""
    ones, others = [len(one.ends) for one in hand.within]
    rows = (tuple(range(ones)), tuple(range(ones, ones + others)))
    told, row = reduced_row(hand, rows)
    return turned_branch(told, tuple([row.index(label) for label in rest_of_rows(hand.steps, rows)]))
