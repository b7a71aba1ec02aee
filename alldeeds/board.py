"""The places of some ends, and what can be told of them ahead of a search for deeds.

A sequent is a pair of ascending tuples of numbers of places. The first ones are
the ends of a deed that is looked for. The second ones, the closed ones, are chosen
forms among them that are not to be taken until an offered form is: the wirings
take both of their sides. A picked leaf is a leaf, or a chosen form with nothing
but picked leaves within: it is a leaf in each choice, and nothing else depends on
which one it is.
"""

from alldeeds.bits import Bits
from alldeeds.formparts import FORK_WORDS, counter_of
from alldeeds.layouts import Layout

# several small numbers are kept side by side in one integer, to add and compare them all at once
FIELD = 1024
HALF_FIELD = 512
SIGNS = {"good": 1, "counter": -1}


def packed(numbers):
    """The numbers side by side."""
    told = 0
    for number in numbers[::-1]:
        told = told * FIELD + number
    return told


class Cell:
    """A place with the Cells of its halves.

    The kind is a number that only equal forms share. The picks are the leaves of
    a picked leaf, each with the row of its sides. The counts are leaves less
    twice the boths, and for each name goods less counters; least and most are
    bounds of them in any choice, low and high the same side by side, less_low
    and more_high also of the counts if the place is left out, which are 0.
    """

    def __init__(self, place, halves, kind):
        self.at = place.at
        self.form = place.form
        self.word = place.word
        self.number = place.number
        self.halves = halves
        self.kind = kind
        self.has_offer = place.word == "offered" or any([half.has_offer for half in halves])
        self.picks = []
        self.least = []
        self.most = []
        self.low = 0
        self.high = 0
        self.less_low = 0
        self.more_high = 0

    def count(self, names):
        """Tells the counts, of a leaf or from the halves."""
        if not self.halves:
            self.least = [1] + [SIGNS[self.word] if name == self.form[1] else 0 for name in names]
            self.most = list(self.least)
        elif self.word in FORK_WORDS:
            left, right = self.halves
            self.least = [min(pair) for pair in zip(left.least, right.least)]
            self.most = [max(pair) for pair in zip(left.most, right.most)]
        else:
            left, right = self.halves
            self.least = [sum(pair) for pair in zip(left.least, right.least)]
            self.most = [sum(pair) for pair in zip(left.most, right.most)]
        if self.word == "both":
            self.least[0] -= 2
            self.most[0] -= 2
        self.low = packed(self.least)
        self.high = packed(self.most)
        self.less_low = packed([min(0, number) for number in self.least])
        self.more_high = packed([max(0, number) for number in self.most])

    def pick(self, bits):
        """Tells the leaves of a picked leaf."""
        if not self.halves:
            self.picks = [(self, 0)]
        elif self.word == "chosen" and all([half.picks for half in self.halves]):
            for side, half in enumerate(self.halves):
                bit = bits.side_bit(self.number, side)
                self.picks.extend([(leaf, row | bit) for leaf, row in half.picks])


class Group:
    """Some Cells, with the sums of their bounds."""

    def __init__(self, cells):
        self.cells = cells
        self.low = sum([cell.low for cell in cells])
        self.high = sum([cell.high for cell in cells])


class Board:
    """The Cells of all places of the ends, by their numbers."""

    def __init__(self, ends):
        layout = Layout(ends)
        names = sorted({leaf.form[1] for leaf in layout.leaves})
        self.roots = tuple([root.at for root in layout.roots])
        self.bits = Bits()
        self.cells = {}
        kinds = {}
        # halves stand behind the forms that they are halves of
        for place in layout.places[::-1]:
            halves = tuple([self.cells[half.at] for half in place.halves])
            key = (place.word,) + tuple([half.kind for half in halves]) if halves else place.form
            cell = Cell(place, halves, kinds.setdefault(key, len(kinds)))
            cell.count(names)
            cell.pick(self.bits)
            self.cells[place.at] = cell
        # half a field more than a number has the bit of the guard exactly if the number is not below 0
        self.guard = packed([HALF_FIELD] * (len(names) + 1))
        # in each choice of a deed the links are one more than the boths, and goods are as many as counters
        self.goal = packed([2] + [0] * len(names))

    def cells_of(self, sequent):
        """The list of the Cells of the ends."""
        return [self.cells[at] for at in sequent[0]]

    def open_cells(self, sequent):
        """The list of the Cells that can be taken."""
        return [self.cells[at] for at in sequent[0] if at not in sequent[1]]

    def reaches_goal(self, low, high):
        """Whether the goal lies between these bounds, number by number."""
        above, below = self.goal - low + self.guard, high - self.goal + self.guard
        return above & below & self.guard == self.guard

    def may_have_deed(self, sequent):
        """Whether the counts of some choice may be those of a deed, and whether the wirings may take both sides."""
        group = Group(self.cells_of(sequent))
        if sequent[1] and not any([cell.has_offer for cell in self.open_cells(sequent)]):
            return False
        return self.reaches_goal(group.low, group.high)

    def key_of(self, sequent):
        """A key that sequents share whose forms are equal, in any order."""
        ends, closed = [tuple(sorted([self.cells[at].kind for at in numbers])) for numbers in sequent]
        return (ends, closed)

    def is_link(self, sequent):
        """Whether the sequent has two ends that are picked leaves."""
        return len(sequent[0]) == 2 and all([cell.picks for cell in self.cells_of(sequent)])

    def links_of(self, sequent):
        """All ways to link two picked leaves: the leaf of each one, and the row of the wiring."""
        one, other = self.cells_of(sequent)
        found = []
        for leaf, row in one.picks:
            for partner, partner_row in other.picks:
                if counter_of(leaf.form) == partner.form:
                    link = self.bits.link_bit(leaf.number, partner.number)
                    found.append((leaf, partner, row | partner_row | link))
        return found

    def splits(self, rest, halves):
        """All ways to part the rest of the Cells among two halves as deeds may: pairs of lists of Cells."""
        low = sum([cell.less_low for cell in rest])
        high = sum([cell.more_high for cell in rest])
        found = [(Group([halves[0]]), Group([halves[1]]))]
        for cell in rest:
            low -= cell.less_low
            high -= cell.more_high
            grown = []
            for left, right in found:
                grown.append((Group(left.cells + [cell]), right))
                grown.append((left, Group(right.cells + [cell])))
            found = [pair for pair in grown
                     if all([self.reaches_goal(group.low + low, group.high + high) for group in pair])]
        return [(left.cells, right.cells) for left, right in found]
