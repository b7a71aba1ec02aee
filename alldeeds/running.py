"""The run of a deed for an asking.

All leaves and forks of the ends that the steps of the run have get names, which
are numbers: a leaf or fork keeps its name from step to step, up to the link or
the step that makes it. The names in the ends of the whole deed are the numbers
there. Two leaves that are opposite at a hand on have names of their own, two
forks share one, as they take the same side.
"""

from alldeeds.deeds import steps_of
from alldeeds.formparts import FORK_WORDS, fork_count, leaf_count
from alldeeds.joining import opposites
from alldeeds.layouts import Layout, is_met, offered_numbers
from alldeeds.passing import rows_within
from alldeeds.renumbering import Numbers
from alldeeds.stepping import ends_in_order, numbers_within


def split_names(form, names):
    """The names of the leaves and forks of both halves of a form."""
    leaves, forks = names
    if form[0] in FORK_WORDS:
        forks = forks[1:]
    many, forked = leaf_count(form[1]), fork_count(form[1])
    return ((leaves[:many], forks[:forked]), (leaves[many:], forks[forked:]))


class Run:
    """What the run meets, found step by step; steps are told by their places, from 0 on."""

    def __init__(self, deed, asking):
        self.found = steps_of(deed)
        self.within = numbers_within(self.found)
        self.ends = ends_in_order(self.found)
        self.layout = Layout(deed.ends)
        self.leaves = Numbers()
        self.forks = Numbers()
        # the sides of forks, the links with both of their leaves, the hand ons with the forks that they hand on
        self.sides = dict(zip(offered_numbers(self.layout), asking))
        self.links = {}
        self.hands = {}
        # for each leaf the link at which it ends, with the way through it, and the leaf opposite to it
        self.entered = {}
        self.opposite = {}
        # steps that are still to be met: an offer waits until the side of its fork is known
        self.ready = [(len(self.found) - 1, tuple([self.named(form) for form in deed.ends]))]
        self.waiting = {}
        while self.ready:
            at, row = self.ready.pop()
            self.meet(at, row)

    def named(self, form):
        """New names for the leaves and forks of the form."""
        return (self.leaves.fresh(leaf_count(form)), self.forks.fresh(fork_count(form)))

    def meet(self, at, row):
        """Meets the step, of which the ends have the names in the row."""
        step = self.found[at]
        if step[0] == "link":
            self.meet_link(at, row)
            return
        fork = None
        if step[0] in ("offer", "choose"):
            fork = row[-1][1][0]
        if step[0] == "choose":
            self.meet_side(fork, step[3])
        if step[0] == "offer" and fork not in self.sides:
            self.waiting[fork] = (at, row)
            return
        halves = None
        if step[0] == "hand":
            halves = self.handed_names(at)
        elif step[0] != "turn":
            halves = split_names(self.ends[at][-1], row[-1])
        within = self.within[at]
        rows = rows_within(step, row, len(self.ends[within[0]]), halves)
        below = list(zip(within, rows))
        self.ready.extend([below[self.sides[fork]]] if step[0] == "offer" else below)

    def meet_link(self, at, row):
        """Meets a link."""
        self.links[at] = tuple([leaves[0] for leaves, _ in row])
        for way, leaf in enumerate(self.links[at]):
            self.entered[leaf] = (at, way)

    def meet_side(self, fork, side):
        """Meets the choose that makes the fork; an offer of the opposite fork may have waited for its side."""
        self.sides[fork] = side
        if fork in self.waiting:
            self.ready.append(self.waiting.pop(fork))

    def handed_names(self, at):
        """New names for the two ends that a hand on hands on."""
        form = self.ends[self.within[at][0]][self.found[at][3]]
        names, opposite = self.named(form), self.leaves.fresh(leaf_count(form))
        self.opposite.update(opposites(names[0], opposite))
        self.hands[at] = (form, names[1])
        return (names, (opposite, names[1]))

    def choice_of(self, layout, names):
        """The choice of the layout whose forks have these names."""
        choice = {}
        for fork in layout.forks:
            if is_met(fork, choice):
                choice[fork.number] = self.sides[names[fork.number]]
        return tuple(list(choice.items()))

    def way_from(self, leaf):
        """The stations of the walk from a leaf of the ends, and the leaf at which it comes out."""
        stations = []
        while True:
            at, way = self.entered[leaf]
            stations.append((at + 1, way))
            leaf = self.links[at][1 - way]
            if leaf not in self.opposite:
                return (tuple(stations), leaf)
            leaf = self.opposite[leaf]

    def met_leaves(self):
        """The ascending list of the numbers of the leaves of the ends that the wiring meets."""
        return [leaf.number for leaf in self.layout.leaves if leaf.number in self.entered]

    def wiring(self):
        """The wiring of the run."""
        names = list(range(len(self.layout.forks)))
        links = []
        for leaf in self.met_leaves():
            other = self.way_from(leaf)[1]
            if leaf < other:
                links.append((leaf, other))
        return (self.choice_of(self.layout, names), tuple(links))
