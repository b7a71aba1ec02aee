"""The steps of plain deeds."""

from alldeeds.formparts import counter_of


def plain_steps(form):
    """The steps of the plain deed of the form, which has the ends form, counter."""
    if form[0] == "good":
        return ("link", form[1])
    if form[0] == "counter":
        return ("turn", ("link", form[1]), (1, 0))
    word, left, right = form
    one, other = plain_steps(left), plain_steps(right)
    if word == "both":
        return ("between", ("both", one, other, 0, 0), 0, 1)
    if word == "between":
        return ("turn", ("between", ("both", one, other, 1, 1), 0, 1), (1, 0))
    if word == "offered":
        chosen_left = ("choose", one, 1, 0, counter_of(right))
        chosen_right = ("choose", other, 1, 1, counter_of(left))
        return ("turn", ("offer", chosen_left, chosen_right, 0, 0), (1, 0))
    return ("offer", ("choose", one, 0, 0, right), ("choose", other, 0, 1, left), 0, 0)
