"""The terms of deeds.

Each taken end of a step has a term that stands for its name, the given end None.
Names are numbers at first, none of which is bound twice, and get their names
when the whole term is there.
"""

from alldeeds.kindparts import kind_counted, kind_given
from alldeeds.passing import rows_within
from alldeeds.renumbering import Numbers
from alldeeds.stepping import ends_in_order, numbers_within
from alldeeds.terms import SLOTS


class TermMaker:
    """Makes the terms of the steps in order, told by their places among them."""

    def __init__(self, found):
        self.found = found
        self.within = numbers_within(found)
        self.ends = ends_in_order(found)
        self.numbers = Numbers()

    def term_at(self, at, row):
        """The term of the step whose ends have the row."""
        maker = MAKERS[self.found[at][0]]
        return maker(self, at, row)

    def kind_made(self, at):
        """The kind of the last end of the step, None if it is taken."""
        return kind_given(self.ends[at][-1])

    def rows_below(self, at, row, halves):
        """The rows of the steps within, with what the halves have of which the step makes its last end."""
        return rows_within(self.found[at], row, len(self.ends[self.within[at][0]]), halves)

    def terms_within(self, at, row, halves):
        """The list of the terms of the steps within."""
        below = self.rows_below(at, row, halves)
        return [self.term_at(number, told) for number, told in zip(self.within[at], below)]

    def fresh_name(self):
        """A new name, as a term."""
        return ("name", self.numbers.fresh(1)[0])


def term_of_link(maker, at, row):
    """The term of a link."""
    return row[1]


def term_of_turn(maker, at, row):
    """The term of a turn."""
    return maker.terms_within(at, row, ())[0]


def term_of_both(maker, at, row):
    """The term of a both: a pair, or an apply in the place of each name of an end."""
    if maker.kind_made(at) is not None:
        one, other = maker.terms_within(at, row, (None, None))
        return ("pair", one, other)
    first, second = maker.within[at]
    one = maker.term_at(first, maker.rows_below(at, row, (None, None))[0])
    return maker.term_at(second, maker.rows_below(at, row, (None, ("apply", row[-1], one)))[1])


def term_of_between(maker, at, row):
    """The term of a between: a fn, or a let."""
    x = maker.fresh_name()
    kind = maker.kind_made(at)
    if kind is not None:
        return ("fn", x[1], kind[1], maker.terms_within(at, row, (x, None))[0])
    y = maker.fresh_name()
    return ("let", x[1], y[1], row[-1], maker.terms_within(at, row, (x, y))[0])


def term_of_offer(maker, at, row):
    """The term of an offer: ways, or a case."""
    if maker.kind_made(at) is not None:
        one, other = maker.terms_within(at, row, (None, None))
        return ("ways", one, other)
    x, y = maker.fresh_name(), maker.fresh_name()
    left, right = maker.terms_within(at, row, (x, y))
    return ("case", row[-1], x[1], left, y[1], right)


def term_of_choose(maker, at, row):
    """The term of a choose: left or right, or first or second in the place of each name of an end."""
    side = maker.found[at][3]
    kind = maker.kind_made(at)
    if kind is not None:
        part = maker.terms_within(at, row, (None, None))[0]
        return (("left", "right")[side], part, kind)
    half = (("first", "second")[side], row[-1])
    return maker.terms_within(at, row, (half, half))[0]


MAKERS = {
    "link": term_of_link,
    "turn": term_of_turn,
    "both": term_of_both,
    "between": term_of_between,
    "offer": term_of_offer,
    "choose": term_of_choose,
}


def named(term, names, numbers):
    """The term with names in the place of numbers: those told, and new ones in the order of its text for bound ones."""
    slots = SLOTS[term[0]]
    if term[0] == "name":
        return ("name", names[term[1]])
    within = dict(names)
    for slot, one in zip(slots, term[1:]):
        if slot == "name":
            within[one] = f"y{numbers.fresh(1)[0] + 1}"
    told = [term[0]]
    for slot, one in zip(slots, term[1:]):
        if slot == "name":
            told.append(within[one])
        else:
            told.append(named(one, within, numbers) if slot == "part" else one)
    return tuple(told)


def inputs_and_term(found):
    """The inputs and the term of the deed with these steps in order, all of whose ends are given or taken."""
    maker = TermMaker(found)
    row, inputs, names = [], [], {}
    for end in maker.ends[-1]:
        kind = kind_counted(end)
        label = None if kind is None else maker.fresh_name()
        row.append(label)
        if label is not None:
            inputs.append((f"x{len(inputs) + 1}", kind))
            names[label[1]] = inputs[-1][0]
    term = maker.term_at(len(found) - 1, tuple(row))
    return (tuple(inputs), named(term, names, Numbers()))
