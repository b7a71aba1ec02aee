"""Pictures of one wiring: its met nodes and the lines that join them."""

from alldeeds.formparts import FORK_WORDS
from alldeeds.layouts import Layout


class Picture:
    """The met nodes, the met betweens among them, and the lines, all ascending."""

    def __init__(self, ends, wiring):
        choice, links = wiring
        layout = Layout(ends)
        self.nodes = []
        self.betweens = []
        self.lines = [(layout.leaves[one].node, layout.leaves[other].node) for one, other in links]
        for root in layout.roots:
            self.draw(root, dict(choice))
        self.lines = sorted(self.lines)

    def draw(self, place, sides):
        """Draws the met nodes of the place and the lines to their halves."""
        self.nodes.append(place.node)
        if place.word == "between":
            self.betweens.append(place.node)
        for side, half in enumerate(place.halves):
            if place.word not in FORK_WORDS or sides[place.number] == side:
                self.lines.append((place.node, half.node))
                self.draw(half, sides)


def joined_nodes(lines):
    """The dict from each node on a line to the list of the nodes with which it is joined."""
    joined = {}
    for one, other in lines:
        joined.setdefault(one, []).append(other)
        joined.setdefault(other, []).append(one)
    return joined


def ways_from(start, joined):
    """The dict from each node that the lines lead to from the start to the node ahead of it on the way."""
    ahead = {start: None}
    waiting = [start]
    while waiting:
        node = waiting.pop()
        for other in joined.get(node, []):
            if other not in ahead:
                ahead[other] = node
                waiting.append(other)
    return ahead


def pieces(nodes, lines):
    """The list of the pieces of nodes that the lines join, each an ascending tuple."""
    joined = joined_nodes(lines)
    found = []
    placed = {}
    for node in nodes:
        if node not in placed:
            reached = ways_from(node, joined)
            for other in reached:
                placed[other] = True
            found.append(tuple(sorted(reached)))
    return found


def ring_of(lines):
    """A ring of the lines, None if there is none."""
    joined = {}
    for one, other in lines:
        ahead = ways_from(one, joined)
        if other in ahead:
            return way_back(other, ahead)
        joined.setdefault(one, []).append(other)
        joined.setdefault(other, []).append(one)
    return None


def way_back(node, ahead):
    """The tuple of the nodes from this one back to the start."""
    way = []
    while node is not None:
        way.append(node)
        node = ahead[node]
    return tuple(way)
