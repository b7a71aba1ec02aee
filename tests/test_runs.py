"""[27], [28], [77]: runs of deeds, and walks through them."""
import random
import unittest

from alldeeds.askings import answering, askings_of
from alldeeds.deeds import Deed, plain_deed
from alldeeds.ends import met_leaves
from alldeeds.formtexts import ends_text, read_form
from alldeeds.runs import Answer, Walk, answer, links_met, walk
from alldeeds.wired import wirings_of
from making import all_steps, anti, fork_list, forked_deeds, handing_deeds, has_hand, leaf_list, link, raised, random_deeds

LA = link("a")
OFFER = ("offer", LA, LA, 0, 0)
TWICE = ("hand", LA, LA, 1, 0)


class Slow:
    """All wirings of a deed with the run of each one: the links and hand ons that it meets, and all walks.

    A leaf or fork is named by the step that makes it. An end is a tuple of the names
    of its leaves and one of its forks; a run is a tuple of the dict of its sides, the
    dict from each met leaf of the ends to where a walk comes out and its stations, the
    links that it meets, and its hidden sides.
    """

    def __init__(self, deed):
        self.number = 0
        self.ends, self.runs = self.of(deed.steps)

    def of(self, steps):
        within = [self.of(one) for one in steps[1:3] if isinstance(one, tuple) and one and isinstance(one[0], str)]
        self.number += 1
        return getattr(self, steps[0])(steps, self.number, *within)

    def link(self, steps, at):
        one, other = (at, 0), (at, 1)
        walks = {one: (other, ((at, 0),)), other: (one, ((at, 1),))}
        return [((one,), ()), ((other,), ())], [({}, walks, {at}, {})]

    def turn(self, steps, at, one):
        return [one[0][k] for k in steps[2]], one[1]

    def between(self, steps, at, one):
        i, j = steps[2:]
        made = joined_end((), one[0][i], one[0][j])
        return [end for k, end in enumerate(one[0]) if k not in (i, j)] + [made], one[1]

    def choose(self, steps, at, one):
        i, side, form = steps[2:]
        unmet = (tuple((at, "leaf", k) for k in range(len(leaf_list([form])))),
                 tuple((at, "fork", k) for k in range(len(fork_list([form])))))
        halves = (one[0][i], unmet) if side == 0 else (unmet, one[0][i])
        runs = [({**sides, at: side}, walks, links, hidden) for sides, walks, links, hidden in one[1]]
        return but(one[0], i) + [joined_end((at,), *halves)], runs

    def both(self, steps, at, one, other):
        i, j = steps[3:]
        runs = [({**s, **t}, {**v, **w}, k | m, {**h, **g}) for s, v, k, h in one[1] for t, w, m, g in other[1]]
        return but(one[0], i) + but(other[0], j) + [joined_end((), one[0][i], other[0][j])], runs

    def offer(self, steps, at, one, other):
        i, j = steps[3:]
        names = {}
        for end, there in zip(but(one[0], i), but(other[0], j)):
            names.update(zip(there[0] + there[1], end[0] + end[1]))
        runs = [({**s, at: 0}, w, k, h) for s, w, k, h in one[1]]
        for sides, walks, links, hidden in other[1]:
            sides = {names.get(fork, fork): side for fork, side in sides.items()}
            walks = {names.get(leaf, leaf): (names.get(out, out), way) for leaf, (out, way) in walks.items()}
            runs.append(({**sides, at: 1}, walks, links, hidden))
        return but(one[0], i) + [joined_end((at,), one[0][i], other[0][j])], runs

    def hand(self, steps, at, one, other):
        i, j = steps[3:]
        (leaves, forks), (there, forks_there) = one[0][i], other[0][j]
        across = dict(zip(leaves, there))
        across.update(zip(there, leaves))
        runs = []
        for s, v, k, h in one[1]:
            for t, w, m, g in other[1]:
                if [s.get(fork) for fork in forks] == [t.get(fork) for fork in forks_there]:
                    walks = {leaf: out_of(leaf, {**v, **w}, across) for leaf in {**v, **w} if leaf not in across}
                    hidden = tuple((number, s[fork]) for number, fork in enumerate(forks) if fork in s)
                    sides = {fork: side for fork, side in {**s, **t}.items() if fork not in forks + forks_there}
                    runs.append((sides, walks, k | m, {**h, **g, at: hidden}))
        return but(one[0], i) + but(other[0], j), runs


def but(row, at):
    return row[:at] + row[at + 1:]


def joined_end(fork, one, other):
    return (one[0] + other[0], fork + one[1] + other[1])


def out_of(leaf, walks, across):
    """Where a walk from the leaf comes out, over the leaves that are handed on, and its stations."""
    leaf, stations = walks[leaf]
    while leaf in across:
        leaf, more = walks[across[leaf]]
        stations += more
    return leaf, stations


class Checks(unittest.TestCase):
    def check(self, deed):
        """Compares all that is told of the runs of the deed with what the document says."""
        slow = Slow(deed)
        leaves = [leaf for end in slow.ends for leaf in end[0]]
        forks = [fork for end in slow.ends for fork in end[1]]
        offered = [fork for fork, (word, _) in zip(forks, fork_list(deed.ends)) if word == "offered"]
        askings = askings_of(deed.ends)
        for asking in random.Random(280).sample(askings, min(len(askings), 8)):
            asked = dict(zip(offered, asking))
            fitting = [run for run in slow.runs if all(asked.get(fork, side) == side for fork, side in run[0].items())]
            self.assertEqual(len(fitting), 1)
            sides, walks, links, hidden = fitting[0]
            told = answer(deed, asking)
            self.assertIsInstance(told, Answer)
            choice = tuple((number, sides[fork]) for number, fork in enumerate(forks) if fork in sides)
            pairs = [tuple(sorted((leaves.index(leaf), leaves.index(out)))) for leaf, (out, _) in walks.items()]
            self.assertEqual(told.wiring, (choice, tuple(sorted(set(pairs)))))
            self.assertEqual(told.hidden, hidden)
            self.assertEqual(links_met(deed, asking), tuple(sorted(links)))
            self.check_walks(deed, asking, told.wiring, {leaves.index(leaf): (leaves.index(out), way)
                                                         for leaf, (out, way) in walks.items()})

    def check_walks(self, deed, asking, wiring, walks):
        self.assertEqual(sorted(walks), list(met_leaves(deed.ends, wiring[0])))
        for leaf in range(len(leaf_list(deed.ends))):
            if leaf not in walks:
                self.assertEqual(raised(walk, deed, asking, leaf), ("BadValue", {"value": leaf}))
                continue
            told = walk(deed, asking, leaf)
            self.assertIsInstance(told, Walk)
            self.assertEqual((told.leaf, told.stations), walks[leaf])
            back = walk(deed, asking, told.leaf)
            self.assertEqual(back.leaf, leaf)
            self.assertEqual(back.stations, tuple((number, 1 - way) for number, way in told.stations[::-1]))


class Runs(Checks):
    def test_drawn_deeds(self):
        for deed in random_deeds(281, 150) + random_deeds(282, 80, "a", 40, 10)[-40:]:
            self.check(deed)

    def test_hand_ons_of_forks(self):
        hidden = set()
        for deed in forked_deeds(283, 250)[-70:] + handing_deeds(284, 130):
            self.check(deed)
            asking = askings_of(deed.ends)[-1]
            hidden.update(len(sides) for sides in answer(deed, asking).hidden.values())
        self.assertTrue(hidden >= {0, 1, 2})

    def test_the_wiring_answers(self):
        for deed in forked_deeds(285, 200)[-60:]:
            whole = wirings_of(deed)
            for asking in askings_of(deed.ends):
                number = answering(whole, asking)[0]
                self.assertEqual(answer(deed, asking).wiring, whole.wirings[number])

    def test_plain_deeds_handed_on(self):
        """Many hand ons of one form with forks, one behind the other and within one another."""
        for text in ["a & b", "(a & b) & (a + b)", "(a & a) * (b + b)", "(a | (b & b)) + a"]:
            plain = plain_deed(read_form(text)).steps
            steps = plain
            for _ in range(3):
                steps = ("hand", plain, ("hand", steps, plain, 1, 0), 1, 0)
            self.check(Deed(steps))

    def test_a_fork_that_comes_back(self):
        """Forks of both words stand in the form that is handed on: sides go there and back."""
        form = read_form("(a & a) | (a + a)")
        plain = plain_deed(form).steps
        self.check(Deed(("hand", plain, plain, 1, 0)))
        self.check(Deed(("hand", plain, ("turn", plain, (1, 0)), 0, 0)))


class Told(Checks):
    def test_link(self):
        told = answer(Deed(LA), ())
        self.assertEqual((told.wiring, told.hidden, links_met(Deed(LA), ())), (((), ((0, 1),)), {}, (1,)))
        self.assertEqual([vars(walk(Deed(LA), (), leaf)) for leaf in (0, 1)],
                         [{"stations": ((1, 0),), "leaf": 1}, {"stations": ((1, 1),), "leaf": 0}])

    def test_offer(self):
        for side in (0, 1):
            told = answer(Deed(OFFER), (side,))
            self.assertEqual((told.wiring, told.hidden), ((((0, side),), ((0, 1 + side),)), {}))
            self.assertEqual(links_met(Deed(OFFER), (side,)), (1 + side,))
            self.assertEqual(walk(Deed(OFFER), (side,), 0).stations, ((1 + side, 1),))

    def test_hidden_sides_behind_sides_that_are_asked(self):
        """The side of a choose decides that of an offer, whatever is asked elsewhere."""
        choose = ("choose", LA, 1, 1, anti("a"))
        deed = Deed(("both", ("hand", OFFER, choose, 1, 1), OFFER, 1, 0))
        self.assertEqual(ends_text(deed.ends), "a~, a & a, a * a~")
        for side in (0, 1):
            told = answer(deed, (side,))
            self.assertEqual(told.hidden, {6: ((0, 1),)})
            self.assertEqual(links_met(deed, (side,)), (2, 4, 7 + side))

    def test_unmet_hand_ons(self):
        """Hand ons on the side that is not met have no hidden sides."""
        deed = Deed(("offer", TWICE, ("hand", TWICE, LA, 1, 0), 1, 1))
        self.assertEqual(answer(deed, (0,)).hidden, {3: ()})
        self.assertEqual(answer(deed, (1,)).hidden, {6: (), 8: ()})

    def test_askings_that_are_not_met(self):
        deed = Deed(("offer", LA, OFFER_TURNED, 1, 1))
        self.assertEqual(ends_text(deed.ends), "a, a~ & (a~ & a~)")
        self.assertEqual([answer(deed, asking).wiring for asking in [(0, 0), (0, 1)]], [(((0, 0),), ((0, 1),))] * 2)
        self.assertEqual(answer(deed, (1, 1)).wiring, (((0, 1), (1, 1)), ((0, 3),)))

    def test_classes(self):
        told = Answer((), {1: ()})
        self.assertEqual(vars(told), {"wiring": (), "hidden": {1: ()}})
        self.assertEqual(vars(Walk(leaf=1, stations=((1, 0),))), {"stations": ((1, 0),), "leaf": 1})
        self.assertNotEqual(Answer((), {}), Answer((), {}))
        self.assertNotEqual(Walk((), 0), Walk((), 0))
        hidden = {1: ()}
        told = Answer(((), ()), hidden)
        hidden[2] = ()
        self.assertEqual(told.hidden, {1: ()})

    def test_new_each_time(self):
        deed = Deed(TWICE)
        one, other = answer(deed, ()), answer(deed, ())
        one.hidden[5] = ()
        self.assertEqual((other.hidden, answer(deed, ()).hidden), ({3: ()}, {3: ()}))


OFFER_TURNED = ("offer", LA, LA, 1, 1)


def many_offers(many):
    """Ends with so many offers, and as many wirings as these have askings."""
    steps = ("turn", OFFER, (1, 0))
    for k in range(many - 1):
        steps = ("both", steps, OFFER, k + 1, 0)
    return Deed(steps)


class Many(Checks):
    def test_very_many_wirings(self):
        deed = many_offers(13)
        self.assertEqual(raised(wirings_of, deed), ("TooMany", {"most": 2000}))
        chance = random.Random(286)
        for _ in range(5):
            asking = tuple(chance.randrange(2) for _ in range(13))
            told = answer(deed, asking)
            self.assertEqual(len(told.wiring[0]), 13)
            self.assertEqual([side for _, side in told.wiring[0]], list(asking))
            self.assertEqual(len(links_met(deed, asking)), 13)
            for one, other in told.wiring[1]:
                self.assertEqual(walk(deed, asking, one).leaf, other)
                self.assertEqual(walk(deed, asking, other).leaf, one)

    def test_very_many_wirings_within(self):
        """The deed itself has one wiring, but a step within has too many to be told."""
        many = many_offers(11)
        self.assertEqual(ends_text(many.ends[:2]), "a & a, a & a")
        choose = ("choose", LA, 1, 1, anti("a"))
        steps, number, sides = many.steps, many.size(), {}
        for _ in range(11):
            # the first end is handed on, and what comes of it stands last
            steps = ("hand", steps, choose, 0, 1)
            number += 3
            sides[number] = ((0, 1),)
        deed = Deed(steps)
        self.assertEqual(len(deed.ends), 12)
        told = answer(deed, ())
        self.assertEqual((len(told.wiring[1]), told.hidden), (11, sides))
        self.assertEqual(raised(wirings_of, deed), ("TooMany", {"most": 2000}))
        for leaf in range(22):
            self.assertEqual(len(walk(deed, (), leaf).stations), 2)

    def test_great_deeds(self):
        """Deeds of nearly 400 steps."""
        steps = LA
        for _ in range(97):
            steps = ("hand", steps, LA, 1, 0)
        whole = walk(Deed(steps), (), 0)
        self.assertEqual((len(whole.stations), whole.leaf), (98, 1))
        self.assertEqual(len(answer(Deed(steps), ()).hidden), 97)
        self.assertEqual(len(links_met(Deed(steps), ())), 98)
        plain = plain_deed(read_form("((a & a) & (a + a)) * ((a + a) & a)")).steps
        steps = plain
        while len(all_steps(steps)) + len(all_steps(plain)) < 400:
            steps = ("hand", steps, plain, 1, 0)
        deed = Deed(steps)
        self.assertTrue(has_hand(steps))
        whole = wirings_of(plain_deed(read_form("((a & a) & (a + a)) * ((a + a) & a)")))
        for asking in askings_of(deed.ends)[:20]:
            self.assertEqual(answer(deed, asking).wiring, whole.wirings[answering(whole, asking)[0]])


class WrongArguments(unittest.TestCase):
    CALLS = ((answer, ()), (links_met, ()), (walk, (0,)), (walk, (None,)))

    def test_no_deed(self):
        for value in [None, 5, LA, TWICE, wirings_of(Deed(LA)), "link a", ()]:
            for call, rest in self.CALLS:
                for asking in ((), None):
                    kind, fields = raised(call, value, asking, *rest)
                    self.assertEqual(kind, "BadValue")
                    self.assertIs(fields["value"], value)

    def test_no_asking(self):
        for deed, wrong in [(Deed(OFFER), [(), (0, 0), (2,), (-1,), (True,), (False,), [0], ["0"], (None,), None, 0, "0", ((0,),)]),
                            (Deed(LA), [(0,), [], None, 0, "", ((),)]),
                            (many_offers(2), [(0,), (0, True), [0, 1], (0, 1, 1), (0, 2)])]:
            for asking in wrong:
                for call, rest in self.CALLS:
                    kind, fields = raised(call, deed, asking, *rest)
                    self.assertEqual(kind, "BadValue")
                    self.assertIs(fields["value"], asking)

    def test_no_leaf(self):
        for deed, asking, wrong in [(Deed(LA), (), [2, -1, True, False, None, "0", 0.0, (0,), [0], 10 ** 20]),
                                    (Deed(OFFER), (0,), [2, 3]), (Deed(OFFER), (1,), [1, 3, -1])]:
            for leaf in wrong:
                kind, fields = raised(walk, deed, asking, leaf)
                self.assertEqual(kind, "BadValue")
                self.assertIs(fields["value"], leaf)

    def test_by_name(self):
        deed = Deed(OFFER)
        self.assertEqual(answer(deed=deed, asking=(1,)).wiring, (((0, 1),), ((0, 2),)))
        self.assertEqual(links_met(asking=(1,), deed=deed), (2,))
        self.assertEqual(walk(deed=deed, asking=(1,), leaf=2).leaf, 0)
        self.assertEqual(walk(leaf=2, deed=deed, asking=(1,)).leaf, 0)
        self.assertEqual(deed.steps, OFFER)


if __name__ == "__main__":
    unittest.main()
