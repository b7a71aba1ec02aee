"""Deeds without hand ons parted at a middle, step by step.

The ends of the steps have nodes of the ends of the whole deed as labels, and the
middle of the whole deed has a node of its own, so no two ends of a step that is
made have the same label.
"""

from alldeeds.deeds import steps_of
from alldeeds.formparts import counter_of
from alldeeds.labelling import Labelled, between_of, both_of, choose_of, offer_of
from alldeeds.passing import rows_within
from alldeeds.stepping import ends_in_order, numbers_within

MIDDLE = (-1,)


class Middle:
    """The form of the middle, and the steps of the left deed and of the right deed."""

    def __init__(self, form, one, other):
        self.form = form
        self.one = one
        self.other = other


def halves_of(label):
    """The labels of the halves of the form with this label."""
    return (label + (0,), label + (1,))


class Parting:
    """A deed whose ends are parted in left and right ones.

    Of the two deeds of a Middle, the near one has the end that the step at hand
    makes, alone or within another form, the far one has not.
    """

    def __init__(self, deed, left):
        self.found = steps_of(deed)
        self.within = numbers_within(self.found)
        self.ends = ends_in_order(self.found)
        self.left = left

    def is_left(self, label):
        """Whether the end with this label comes from a left end."""
        return label[0] in self.left

    def are_mixed(self, labels):
        """Whether there are left ends and right ones."""
        return len({self.is_left(label) for label in labels}) == 2

    def near_first(self, middle, made):
        """The near deed and the far deed of a Middle."""
        return (middle.one, middle.other) if self.is_left(made) else (middle.other, middle.one)

    def joined(self, form, near, far, made):
        """The Middle of a near deed and a far deed."""
        return Middle(form, near, far) if self.is_left(made) else Middle(form, far, near)

    def middle_at(self, at, labels, middle):
        """The Middle of the step at this place; the steps around it tell the labels of its ends and of its middle."""
        step = self.found[at]
        if step[0] == "link":
            return self.of_link(step, labels, middle)
        within = self.within[at]
        rows = rows_within(step, labels, len(self.ends[within[0]]), halves_of(labels[-1]))
        if step[0] == "turn":
            return self.middle_at(within[0], rows[0], middle)
        if step[0] in ("between", "choose"):
            return self.of_one(step, self.middle_at(within[0], rows[0], middle), labels[-1])
        for plain, mixed in ((0, 1), (1, 0)):
            if not self.are_mixed(rows[plain]):
                whole = Labelled(self.found[within[plain]], rows[plain])
                return self.of_plain(whole, plain, self.middle_at(within[mixed], rows[mixed], middle), labels[-1])
        pair = [self.middle_at(within[k], rows[k], halves_of(middle)[k]) for k in (0, 1)]
        if step[0] == "both":
            return self.of_both(pair, labels[-1], middle)
        return self.of_offer(pair, labels[-1], middle)

    def of_link(self, step, labels, middle):
        """The Middle of a link."""
        good, counter = labels
        with_good, with_counter = Labelled(step, (good, middle)), Labelled(step, (middle, counter))
        if self.is_left(good):
            return Middle(("counter", step[1]), with_good, with_counter)
        return Middle(("good", step[1]), with_counter, with_good)

    def of_one(self, step, below, made):
        """The Middle of a between or a choose."""
        near, far = self.near_first(below, made)
        if step[0] == "between":
            near = between_of(near, halves_of(made), made)
        else:
            near = choose_of(near, halves_of(made), step[3], step[4], made)
        return self.joined(below.form, near, far, made)

    def of_plain(self, whole, plain, below, made):
        """The Middle of a both of which one step, with this number, has all of its ends on one side."""
        near, far = self.near_first(below, made)
        one, other = (whole, near) if plain == 0 else (near, whole)
        return self.joined(below.form, both_of(one, other, halves_of(made), made), far, made)

    def of_both(self, pair, made, middle):
        """The Middle of a both of two steps that have one each."""
        (near, far), (other_near, other_far) = [self.near_first(below, made) for below in pair]
        word = "between" if self.is_left(made) else "both"
        near = between_of(both_of(near, other_near, halves_of(made), made), halves_of(middle), middle)
        far = both_of(far, other_far, halves_of(middle), middle)
        return self.joined((word, pair[0].form, pair[1].form), near, far, made)

    def of_offer(self, pair, made, middle):
        """The Middle of an offer."""
        (near, far), (other_near, other_far) = [self.near_first(below, made) for below in pair]
        word, forms = "chosen", [below.form for below in pair]
        # the near deed has the middle itself if it is the left one, otherwise its counter; it is chosen there
        beside = forms
        if not self.is_left(made):
            word, beside = "offered", [counter_of(form) for form in forms]
        near = choose_of(near, halves_of(middle), 0, beside[1], middle)
        other_near = choose_of(other_near, halves_of(middle), 1, beside[0], middle)
        near = offer_of(near, other_near, halves_of(made), made)
        far = offer_of(far, other_far, halves_of(middle), middle)
        return self.joined((word, forms[0], forms[1]), near, far, made)


def told_middle(deed, left):
    """The Middle of a deed without hand ons, with these numbers of left ends."""
    parting = Parting(deed, left)
    labels = [(end,) for end in range(len(deed.ends))]
    return parting.middle_at(len(parting.found) - 1, tuple(labels), MIDDLE)
