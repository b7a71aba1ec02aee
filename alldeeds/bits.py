"""Wirings as rows: integers with a bit for each side of a choice and for each link.

What is kept of many wirings on some of the ends is then told by one mask.
"""

from alldeeds.renumbering import ascending_pair


class Bits:
    """The bits of sides and links; each of these gets its bit when it is first asked for."""

    def __init__(self):
        self.sides = {}
        self.links = {}

    def bit_in(self, table, pair):
        """The bit of the pair in one of the two tables."""
        if pair not in table:
            table[pair] = 1 << (len(self.sides) + len(self.links))
        return table[pair]

    def side_bit(self, fork, side):
        """The bit of the side of the fork."""
        return self.bit_in(self.sides, (fork, side))

    def link_bit(self, one, other):
        """The bit of the link of two leaves, in any order."""
        return self.bit_in(self.links, ascending_pair(one, other))

    def row_of(self, wiring):
        """The row of the wiring."""
        choice, links = wiring
        row = 0
        for fork, side in choice:
            row |= self.side_bit(fork, side)
        for one, other in links:
            row |= self.link_bit(one, other)
        return row

    def wiring_of(self, row):
        """The choice and the links of the row, each ascending."""
        choice = sorted([pair for pair in self.sides if row & self.sides[pair]])
        links = sorted([pair for pair in self.links if row & self.links[pair]])
        return (tuple(choice), tuple(links))
