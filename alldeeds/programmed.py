"""The steps of the deeds of terms.

The ends of a step are labelled by the names that the term uses, its own end by
OWN; an end that is handed on, or made to be handed on, is MADE or TAKEN.
"""

from alldeeds.formparts import counter_of
from alldeeds.kindparts import form_told
from alldeeds.labelling import Labelled, between_of, both_of, choose_of, hand_of, offer_of
from alldeeds.plainsteps import plain_steps

# no name of a program has a capital letter
OWN = "OWN"
MADE = "MADE"
TAKEN = "TAKEN"


def plain_of(kind, label):
    """The plain deed from a thing of the kind, which has the label, to itself."""
    return Labelled(plain_steps(counter_of(form_told(kind))), (label, OWN))


class Maker:
    """Makes the steps of the terms of a Program."""

    def __init__(self, program):
        self.program = program

    def deed_of_term(self, term, path):
        """The Labelled steps of the term at the path."""
        maker = MAKERS[term[0]]
        return maker(self, term, path)

    def deeds_of_parts(self, parts, path, first):
        """The list of the Labelled steps of the parts, of which the first one has this number."""
        return [self.deed_of_term(part, path + (first + at,)) for at, part in enumerate(parts)]

    def handed_to(self, taker, part, path):
        """The own end of the first part of the term at the path, handed on to the MADE end of the taker."""
        if part[0] == "name":
            # handed on to a plain deed, the taker stays as it is
            return Labelled(taker.steps, tuple([part[1] if label == MADE else label for label in taker.labels]))
        return hand_of(self.deed_of_term(part, path + (0,)), taker, (OWN, MADE))


def deed_of_name(maker, term, path):
    """The steps of a name."""
    return plain_of(maker.program.kind_at(path), term[1])


def deed_of_pair(maker, term, path):
    """The steps of a pair."""
    one, other = maker.deeds_of_parts(term[1:], path, 0)
    return both_of(one, other, (OWN, OWN), OWN)


def deed_of_let(maker, term, path):
    """The steps of a let."""
    x, y, pair, body = term[1:]
    taker = between_of(maker.deed_of_term(body, path + (1,)), (x, y), MADE)
    return maker.handed_to(taker, pair, path)


def deed_of_fn(maker, term, path):
    """The steps of a fn."""
    body = maker.deed_of_term(term[3], path + (0,))
    return between_of(body, (term[1], OWN), OWN)


def deed_of_apply(maker, term, path):
    """The steps of an apply."""
    told = plain_of(maker.program.kind_at(path), TAKEN)
    taker = both_of(maker.deed_of_term(term[2], path + (1,)), told, (OWN, TAKEN), MADE)
    return maker.handed_to(taker, term[1], path)


def deed_of_side(maker, term, path):
    """The steps of a left or a right."""
    side = ("left", "right").index(term[0])
    part = maker.deed_of_term(term[1], path + (0,))
    return choose_of(part, (OWN, OWN), side, form_told(term[2][2 - side]), OWN)


def deed_of_case(maker, term, path):
    """The steps of a case."""
    part, x, left, y, right = term[1:]
    one, other = maker.deeds_of_parts((left, right), path, 1)
    return maker.handed_to(offer_of(one, other, (x, y), MADE), part, path)


def deed_of_ways(maker, term, path):
    """The steps of ways."""
    one, other = maker.deeds_of_parts(term[1:], path, 0)
    return offer_of(one, other, (OWN, OWN), OWN)


def deed_of_half(maker, term, path):
    """The steps of a first or a second."""
    side = ("first", "second").index(term[0])
    offer = maker.program.kind_at(path + (0,))
    told = plain_of(offer[1 + side], TAKEN)
    taker = choose_of(told, (TAKEN, TAKEN), side, counter_of(form_told(offer[2 - side])), MADE)
    return maker.handed_to(taker, term[1], path)


MAKERS = {
    "name": deed_of_name,
    "pair": deed_of_pair,
    "let": deed_of_let,
    "fn": deed_of_fn,
    "apply": deed_of_apply,
    "left": deed_of_side,
    "right": deed_of_side,
    "case": deed_of_case,
    "ways": deed_of_ways,
    "first": deed_of_half,
    "second": deed_of_half,
}
