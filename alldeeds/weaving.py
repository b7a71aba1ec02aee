"""Wirings that are taken apart again and again, without new numbers for what is left."""

from alldeeds.bits import Bits
from alldeeds.errors import NotOfDeed
from alldeeds.layouts import Layout


class Part:
    """Some places as ends, in order, and the rows of what the wirings have there, ascending, each once."""

    def __init__(self, places, rows):
        self.places = places
        self.rows = rows

    def is_plain_link(self):
        """Whether it is a good and its counter with their one wiring."""
        # a wiring of two leaves can only link them with each other
        return len(self.places) == 2 and len(self.rows) == 1 and not any([place.halves for place in self.places])


class Weave:
    """The places of some Wirings, the bits of its wirings, and for each place the mask of the bits within."""

    def __init__(self, wirings):
        layout = Layout(wirings.ends)
        self.bits = Bits()
        rows = [self.bits.row_of(wiring) for wiring in wirings.wirings]
        self.whole = Part(tuple(layout.roots), tuple(sorted(rows)))
        self.masks = [0] * len(layout.places)
        for fork, side in self.bits.sides:
            self.masks[layout.forks[fork].at] |= self.bits.side_bit(fork, side)
        for link in self.bits.links:
            for leaf in link:
                self.masks[layout.leaves[leaf].at] |= self.bits.links[link]
        # halves stand behind the forms that they are halves of
        for place in layout.places[::-1]:
            for half in place.halves:
                self.masks[place.at] |= self.masks[half.at]

    def kept(self, places, rows):
        """The Part of the places with what the rows have there."""
        mask = 0
        for place in places:
            mask |= self.masks[place.at]
        return Part(places, tuple(sorted({row & mask for row in rows})))

    def with_side(self, rows, place, side):
        """The rows that take the side at the fork, without it."""
        bit = self.bits.side_bit(place.number, side)
        return tuple([row ^ bit for row in rows if row & bit])


def apart_between(weave, rest, place, rows):
    """The Parts that are taken at a between."""
    return (Part(rest + place.halves, rows),)


def apart_offered(weave, rest, place, rows):
    """The Parts that are taken at an offered form."""
    return tuple([Part(rest + (half,), weave.with_side(rows, place, side)) for side, half in enumerate(place.halves)])


def apart_chosen(weave, rest, place, rows):
    """The Parts that are taken at a chosen form, None if the rows do not take one side."""
    for side, half in enumerate(place.halves):
        taken = weave.with_side(rows, place, side)
        if rows and len(taken) == len(rows):
            return (Part(rest + (half,), taken),)
    return None


def hanging_with(start, masks):
    """The ascending list of the places that hang together with the one at the start."""
    reached = masks[start]
    found = {start: True}
    waiting = [start]
    while waiting:
        reached |= masks[waiting.pop()]
        for at, mask in enumerate(masks):
            if mask & reached and at not in found:
                found[at] = True
                waiting.append(at)
    return sorted(found)


def apart_both(weave, rest, place, rows):
    """The Parts that are taken at a both, None if the rows do not part there."""
    places = rest + place.halves
    used = 0
    for row in rows:
        used |= row
    # no two places share the bits of a fork, so what they share are links between them
    masks = [weave.masks[part.at] & used for part in places]
    left = hanging_with(len(rest), masks)
    right = hanging_with(len(rest) + 1, masks)
    if not rows or sorted(left + right) != list(range(len(places))):
        return None
    one = weave.kept(tuple([places[at] for at in left]), rows)
    other = weave.kept(tuple([places[at] for at in right]), rows)
    # each row is one pair of what is kept on both sides, so all pairs are there if they are as many
    if len(one.rows) * len(other.rows) != len(rows):
        return None
    return (one, other)


def apart_leaf(weave, rest, place, rows):
    """Nothing is taken at a good or a counter."""
    return None


TAKERS = {
    "good": apart_leaf,
    "counter": apart_leaf,
    "both": apart_both,
    "between": apart_between,
    "offered": apart_offered,
    "chosen": apart_chosen,
}


def taken_apart(weave, part, end):
    """The tuple of the Parts that are taken at the end, None if nothing can be taken there."""
    place = part.places[end]
    taker = TAKERS[place.word]
    return taker(weave, part.places[:end] + part.places[end + 1:], place, part.rows)


def first_taking(weave, part):
    """The first end at which the Part can be taken and what is taken there; None if there is none."""
    for end in range(len(part.places)):
        parts = taken_apart(weave, part, end)
        if parts is not None:
            return (end, parts)
    return None


def stuck_part(weave, part):
    """The first Part on the told way that is no plain link and can be taken at no end; None if there is none."""
    if part.is_plain_link():
        return None
    found = first_taking(weave, part)
    if found is None:
        return part
    for taken in found[1]:
        stuck = stuck_part(weave, taken)
        if stuck is not None:
            return stuck
    return None


def weave_of_deed(wirings):
    """The Weave of Wirings that come of a deed; NotOfDeed for others."""
    weave = Weave(wirings)
    if stuck_part(weave, weave.whole) is not None:
        raise NotOfDeed()
    return weave
