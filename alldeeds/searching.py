"""The search for all deeds of some ends: sequents are taken apart as their deeds would be."""

from alldeeds.board import Board
from alldeeds.errors import TooMany
from alldeeds.labelling import Labelled, between_of, both_of, choose_of, offer_of, ordered

MOST_SETS = 1000


class Taking:
    """The Cell that is taken, the side if it is chosen, and the sequents that are taken.

    Without a side, a chosen form is only put off until an offered form is taken.
    """

    def __init__(self, cell, side, parts):
        self.cell = cell
        self.side = side
        self.parts = parts


def sequent_of(cells, closed):
    """The sequent of the Cells, of which those that are closed can not be taken."""
    ends = sorted([cell.at for cell in cells])
    return (tuple(ends), tuple([at for at in ends if at in closed]))


def with_halves(cells, cell, halves, closed):
    """The sequent of the Cells with some halves of one of them in its place."""
    return sequent_of([other for other in cells if other.at != cell.at] + list(halves), closed)


class Search:
    """What is found of the deeds of sequents: how many wirings they have, and all of their sets of rows."""

    def __init__(self, ends):
        self.board = Board(ends)
        self.whole = (self.board.roots, ())
        self.counted = {}
        self.listed = {}

    def takings(self, sequent):
        """Takings such that each deed of the sequent, if that is no link, comes of one of them.

        At a between or an offered form each deed can be taken, so the first one will do.
        """
        cells = self.board.cells_of(sequent)
        for cell in cells:
            if cell.word == "between":
                return [Taking(cell, None, (with_halves(cells, cell, cell.halves, sequent[1]),))]
        for cell in cells:
            if cell.word == "offered":
                return [Taking(cell, None, tuple([with_halves(cells, cell, [half], ()) for half in cell.halves]))]
        for cell in self.board.open_cells(sequent):
            # a picked leaf need not be taken ahead of the link
            if cell.word == "chosen" and not cell.picks:
                return self.takings_chosen(sequent, cell)
        return [taking for cell in cells if cell.word == "both" for taking in self.takings_both(sequent, cell)]

    def takings_chosen(self, sequent, cell):
        """The Takings at a chosen form: on each side, or later, if the wirings take both sides."""
        cells = self.board.cells_of(sequent)
        found = []
        for side, half in enumerate(cell.halves):
            found.append(Taking(cell, side, (with_halves(cells, cell, [half], sequent[1]),)))
        later = sequent_of(cells, sequent[1] + (cell.at,))
        # where nothing is offered, a deed has one wiring; otherwise those of both sides have counts of their own
        if all([self.board.may_have_deed(told) for told in [later] + [taking.parts[0] for taking in found]]):
            found.append(Taking(cell, None, (later,)))
        return found

    def takings_both(self, sequent, cell):
        """The Takings at a both."""
        rest = [other for other in self.board.cells_of(sequent) if other.at != cell.at]
        found = []
        for pair in self.board.splits(rest, cell.halves):
            parts = tuple([sequent_of(cells, sequent[1]) for cells in pair])
            if all([self.board.may_have_deed(part) for part in parts]):
                found.append(Taking(cell, None, parts))
        return found

    def counts(self, sequent):
        """The least and the greatest number of wirings that a deed of the sequent has; None if there is no deed."""
        key = self.board.key_of(sequent)
        if key not in self.counted:
            self.counted[key] = self.found_counts(sequent)
        return self.counted[key]

    def found_counts(self, sequent):
        """The same, not found before."""
        if not self.board.may_have_deed(sequent):
            return None
        if self.board.is_link(sequent):
            return (1, 1) if self.board.links_of(sequent) else None
        found = []
        for taking in self.takings(sequent):
            told = self.counts_of(taking)
            if told is not None:
                found.append(told)
                if told == (1, 1) and not any([cell.has_offer for cell in self.board.cells_of(sequent)]):
                    break
        if not found:
            return None
        return (min([least for least, _ in found]), max([most for _, most in found]))

    def counts_of(self, taking):
        """The least and the greatest number of wirings of the deeds that come of the Taking; None if none do."""
        told = []
        for part in taking.parts:
            counts = self.counts(part)
            if counts is None:
                return None
            told.append(counts)
        if len(told) == 1:
            return told[0]
        one, other = told
        if taking.cell.word == "offered":
            return (one[0] + other[0], one[1] + other[1])
        return (one[0] * other[0], one[1] * other[1])

    def right_takings(self, sequent):
        """The list of the Takings of which some deed comes."""
        return [taking for taking in self.takings(sequent) if self.counts_of(taking) is not None]

    def sets_of(self, sequent):
        """All sets of rows of the deeds of the sequent, each ascending; TooMany if there are too many.

        Each deed of a sequent that is met here leads to another deed of the whole,
        so there are too many of that, too.
        """
        if sequent not in self.listed:
            self.listed[sequent] = self.found_sets(sequent)
        return self.listed[sequent]

    def found_sets(self, sequent):
        """The same, not found before."""
        if self.board.is_link(sequent):
            return [(row,) for _, _, row in self.board.links_of(sequent)]
        found = {}
        for taking in self.right_takings(sequent):
            for rows in self.sets_taken(taking):
                found[rows] = True
            check_sets_many(len(found))
        return list(found)

    def sets_taken(self, taking):
        """The sets of rows of the deeds that come of the Taking."""
        parts = [self.sets_of(part) for part in taking.parts]
        cell = taking.cell
        if len(parts) == 1 and taking.side is None:
            return parts[0]
        if cell.word == "chosen":
            bit = self.board.bits.side_bit(cell.number, taking.side)
            return [tuple([row | bit for row in rows]) for rows in parts[0]]
        check_sets_many(len(parts[0]) * len(parts[1]))
        pairs = [(one, other) for one in parts[0] for other in parts[1]]
        if cell.word == "both":
            return [tuple(sorted([row | told for row in one for told in other])) for one, other in pairs]
        left, right = [self.board.bits.side_bit(cell.number, side) for side in (0, 1)]
        return [tuple(sorted([row | left for row in one] + [row | right for row in other])) for one, other in pairs]

    def some_steps(self, sequent):
        """Steps of a deed of the sequent, which has one, with the numbers of the places as labels."""
        if self.board.is_link(sequent):
            return self.link_steps(sequent)
        taking = self.right_takings(sequent)[0]
        parts = [self.some_steps(part) for part in taking.parts]
        cell = taking.cell
        if cell.word == "chosen" and taking.side is None:
            return parts[0]
        halves = tuple([half.at for half in cell.halves])
        if cell.word == "between":
            return between_of(parts[0], halves, cell.at)
        if cell.word == "both":
            return both_of(parts[0], parts[1], halves, cell.at)
        if cell.word == "offered":
            return offer_of(parts[0], parts[1], halves, cell.at)
        return choose_of(parts[0], halves, taking.side, cell.halves[1 - taking.side].form, cell.at)

    def link_steps(self, sequent):
        """Steps of a deed of two picked leaves."""
        leaf, partner, row = self.board.links_of(sequent)[0]
        labels = (leaf.at, partner.at) if leaf.word == "good" else (partner.at, leaf.at)
        told = Labelled(("link", leaf.form[1]), labels)
        for cell in self.board.cells_of(sequent):
            told = self.picked_steps(told, cell, row)
        return told

    def picked_steps(self, told, cell, row):
        """The steps that make a picked leaf of the leaf that the row chooses."""
        if not cell.halves:
            return told
        side = 0 if row & self.board.bits.side_bit(cell.number, 0) else 1
        below = self.picked_steps(told, cell.halves[side], row)
        halves = tuple([half.at for half in cell.halves])
        return choose_of(below, halves, side, cell.halves[1 - side].form, cell.at)


def check_sets_many(many):
    """Raises TooMany if some ends have so many sets."""
    if many > MOST_SETS:
        raise TooMany(MOST_SETS)


def steps_found(search):
    """Steps of a deed of the whole ends, in their order."""
    return ordered(search.some_steps(search.whole), search.board.roots).steps
