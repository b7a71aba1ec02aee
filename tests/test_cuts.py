"""[15], [16], [17], [70]: pictures of wirings, cuts, rings, loose pieces."""
import itertools
import random
import unittest

from alldeeds.cuts import BadCut, bad_cut, first_unsound, leaves_one_tree, lines_of, nodes_of
from alldeeds.deeds import Deed, plain_deed
from alldeeds.formtexts import read_ends
from alldeeds.wired import wirings_of
from alldeeds.wirings import Wirings
from making import FORKS, anti, counter_of, every_wiring, fork_list, good, leaf_list, link, raised, random_deeds, random_form

A = good("a")


def picture(ends, wiring):
    """The met nodes, the lines and the met betweens of a wiring, told slowly."""
    choice, links = wiring
    sides = dict(choice)
    nodes, lines, betweens, leaves = [], [], [], []
    forks = [0]

    def walk(form, node, met):
        if len(form) == 2:
            leaves.append(node)
            if met:
                nodes.append(node)
            return
        taken = (0, 1)
        if form[0] in FORKS:
            number = forks[0]
            forks[0] += 1
            taken = (sides.get(number),)
        if met:
            nodes.append(node)
            lines.extend((node, node + (side,)) for side in (0, 1) if side in taken)
            if form[0] == "between":
                betweens.append(node)
        for side in (0, 1):
            walk(form[1 + side], node + (side,), met and side in taken)

    for at, end in enumerate(ends):
        walk(end, (at,), True)
    lines.extend((leaves[i], leaves[j]) for i, j in links)
    return sorted(nodes), sorted(lines), sorted(betweens)


def staying(lines, cut):
    gone = {(node, node + (side,)) for node, side in cut}
    return [line for line in lines if line not in gone]


def groups(nodes, lines):
    """The pieces into which the lines join the nodes, and whether there is a ring."""
    at = {node: node for node in nodes}
    ring = False
    for one, other in lines:
        if at[one] == at[other]:
            ring = True
        old, new = at[one], at[other]
        at = {node: new if piece == old else piece for node, piece in at.items()}
    return {frozenset(node for node in nodes if at[node] == piece) for piece in set(at.values())}, ring


def all_cuts(betweens):
    return [tuple(zip(betweens, sides)) for sides in itertools.product((0, 1), repeat=len(betweens))]


def grouped(word, forms):
    """The forms as one form, of which the halves are grouped so that it is not deep."""
    if len(forms) == 1:
        return forms[0]
    half = len(forms) // 2
    return (word, grouped(word, forms[:half]), grouped(word, forms[half:]))


def wide(many):
    """A sound Wirings with one wiring, which meets so many betweens."""
    ends = [grouped("between", [anti("a")] * (many + 1)), grouped("both", [A] * (many + 1))]
    return Wirings(ends, [((), tuple((k, k + many + 1) for k in range(many + 1)))])


def loops(many):
    """A Wirings with one wiring, which meets so many betweens, each with both halves linked: not sound."""
    return Wirings([("between", A, anti("a"))] * many, [((), tuple((2 * k, 2 * k + 1) for k in range(many)))])


class Pictures(unittest.TestCase):
    def check(self, wirings):
        for number, wiring in enumerate(wirings.wirings):
            nodes, lines, betweens = picture(wirings.ends, wiring)
            self.assertEqual(nodes_of(wirings, number), tuple(nodes))
            self.assertEqual(lines_of(wirings, number), tuple(lines))
            self.check_cuts(wirings, number, nodes, lines, betweens)

    def check_cuts(self, wirings, number, nodes, lines, betweens):
        bad = []
        for cut in all_cuts(betweens):
            found, ring = groups(nodes, staying(lines, cut))
            right = len(found) == 1 and not ring
            self.assertIs(leaves_one_tree(wirings, number, cut), right)
            if not right:
                bad.append(cut)
        told = bad_cut(wirings, number)
        if not bad:
            self.assertIsNone(told)
        else:
            self.assertIsInstance(told, BadCut)
            self.assertIn(told.cut, bad)
            self.check_bad(nodes, staying(lines, told.cut), told)

    def check_bad(self, nodes, lines, told):
        found, ring = groups(nodes, lines)
        joined = {frozenset(line) for line in lines}
        self.assertEqual(told.ring is not None, ring)
        self.assertEqual(told.loose is not None, len(found) > 1)
        if ring:
            self.assertIsInstance(told.ring, tuple)
            self.assertGreaterEqual(len(told.ring), 3)
            self.assertEqual(len(set(told.ring)), len(told.ring))
            for one, other in zip(told.ring, told.ring[1:] + told.ring[:1]):
                self.assertIn(frozenset((one, other)), joined)
        if len(found) > 1:
            self.assertIsInstance(told.loose, tuple)
            self.assertEqual(list(told.loose), sorted(told.loose))
            self.assertIn(frozenset(told.loose), found)
            self.assertEqual(len(set(told.loose)), len(told.loose))

    def test_wirings_of_deeds_are_sound(self):
        for deed in random_deeds(81, 100):
            wirings = wirings_of(deed)
            self.check(wirings)
            self.assertIsNone(first_unsound(wirings))
            for number in range(len(wirings.wirings)):
                self.assertIsNone(bad_cut(wirings, number))

    def test_any_wirings(self):
        chance = random.Random(82)
        many = {"bad": 0, "both": 0}
        for _ in range(400):
            ends = [random_form(chance, 3, "a") for _ in range(chance.randrange(1, 4))]
            if len(leaf_list(ends)) > 8 or len(fork_list(ends)) > 4:
                continue
            found = every_wiring(ends)
            if not found:
                continue
            wirings = Wirings(ends, chance.sample(found, min(4, len(found))))
            self.check(wirings)
            bad = [bad_cut(wirings, k) for k in range(len(wirings.wirings))]
            many["bad"] += len([one for one in bad if one])
            many["both"] += len([one for one in bad if one and one.ring and one.loose])
            first = [k for k, one in enumerate(bad) if one is not None]
            self.assertEqual(first_unsound(wirings), first[0] if first else None)
        self.assertGreater(many["bad"], 50)
        self.assertGreater(many["both"], 20)

    def test_forks(self):
        wirings = Wirings(read_ends("(a & b) | c~, c * (a~ + b~)"), [
            (((0, 0), (1, 0)), ((0, 4), (2, 3))), (((0, 1), (1, 1)), ((1, 5), (2, 3)))])
        self.assertEqual(nodes_of(wirings, 1), ((0,), (0, 0), (0, 0, 1), (0, 1), (1,), (1, 0), (1, 1), (1, 1, 1)))
        self.assertEqual(nodes_of(wirings=wirings, number=0), ((0,), (0, 0), (0, 0, 0), (0, 1), (1,), (1, 0), (1, 1), (1, 1, 0)))
        self.assertEqual(lines_of(wirings=wirings, number=1), (
            ((0,), (0, 0)), ((0,), (0, 1)), ((0, 0), (0, 0, 1)), ((0, 0, 1), (1, 1, 1)), ((0, 1), (1, 0)), ((1,), (1, 0)),
            ((1,), (1, 1)), ((1, 1), (1, 1, 1))))
        self.check(wirings)

    def test_betweens_that_are_not_met(self):
        wirings = Wirings(read_ends("a & (b | b~), a~"), [(((0, 0),), ((0, 3),))])
        self.assertIs(leaves_one_tree(wirings, 0, ()), True)
        self.assertIsNone(bad_cut(wirings, 0))
        self.assertEqual(raised(leaves_one_tree, wirings, 0, (((0, 1), 0),)), ("BadValue", {"value": (((0, 1), 0),)}))


class Cuts(unittest.TestCase):
    def test_ring_and_loose_piece(self):
        """Two links between a both and a between of other ends leave a ring and a loose piece."""
        wirings = Wirings(read_ends("a * a~, b | b~"), [((), ((0, 1), (2, 3)))])
        told = bad_cut(wirings, 0)
        self.assertEqual(set(told.ring), {(0,), (0, 0), (0, 1)})
        self.assertIn(set(told.loose), [{(0,), (0, 0), (0, 1)}, {(1,), (1, 0), (1, 1)}])
        self.assertIs(leaves_one_tree(wirings, 0, (((1,), 0),)), False)
        self.assertIs(leaves_one_tree(wirings=wirings, number=0, cut=(((1,), 1),)), False)

    def test_two_pairs_across(self):
        wirings = Wirings(read_ends("a | b, c | d, a~ * c~, b~ * d~"), [((), ((0, 4), (1, 6), (2, 5), (3, 7)))])
        self.assertEqual([leaves_one_tree(wirings, 0, cut) for cut in all_cuts([(0,), (1,)])], [False] * 4)
        wirings = Wirings(read_ends("(a | b) | (c | d), (a~ * c~) * (b~ * d~)"), [((), ((0, 4), (1, 6), (2, 5), (3, 7)))])
        self.assertEqual([leaves_one_tree(wirings, 0, cut) for cut in all_cuts([(0,), (0, 0), (0, 1)])], [True] * 8)

    def test_one_bad_cut_among_many(self):
        """Betweens side by side that are all right, and a both that only one choice of sides makes a ring."""
        chance = random.Random(83)
        few = 0
        for _ in range(600):
            names = "abcde"
            leaves = [(word, name) for name in names for word in ("good", "counter")]
            chance.shuffle(leaves)
            while len(leaves) > 2:
                one, other = leaves.pop(chance.randrange(len(leaves))), leaves.pop(chance.randrange(len(leaves)))
                leaves.append((chance.choice(("both", "between")), one, other))
                if chance.random() < 0.1:
                    break
            found = every_wiring(leaves)
            wirings = Wirings(leaves, found)
            nodes, lines, betweens = picture(wirings.ends, wirings.wirings[0])
            bad = [cut for cut in all_cuts(betweens) if not leaves_one_tree(wirings, 0, cut)]
            if 0 < len(bad) < 2 ** len(betweens):
                few += 1
            Pictures().check(wirings)
        self.assertGreater(few, 5)

    def test_wrong_cuts(self):
        wirings = Wirings(read_ends("a | b, (a~ * b~) | (c | c~)"), [((), ((0, 2), (1, 3), (4, 5)))])
        right = (((0,), 0), ((1,), 1), ((1, 1), 0))
        self.assertIs(leaves_one_tree(wirings, 0, right), False)
        for cut in [None, 0, "", (), [], {}, list(right), right[:2], right + (((2,), 0),), right + right[2:], right[::-1],
                    (right[1], right[0], right[2]), (((0,), 0), ((1,), 1), [(1, 1), 0]), (((0,), 0), ((1,), 1), ([1, 1], 0)),
                    (((0,), 0), ((1,), 1), ((1, 1), 2)), (((0,), 0), ((1,), 1), ((1, 1), -1)), (((0,), False), ((1,), 1), ((1, 1), 0)),
                    (((0,), 0), ((1,), True), ((1, 1), 0)), (((False,), 0), ((1,), 1), ((1, 1), 0)), (((0,), 0), ((True,), 1), ((1, 1), 0)),
                    (((0,), 0), ((1,), 1), ((1, True), 0)), (((0,), 0), ((1,), 1), ((1, 0), 0)), (((0,), 0), ((1,), 1), ((1, 1), 0, 0)),
                    (((0,), 0), ((1,), 1), ((1, 1),)), ((0, 0), ((1,), 1), ((1, 1), 0)), (((0,), 0), ((0,), 1), ((1,), 1), ((1, 1), 0)),
                    (((0,), None), ((1,), 1), ((1, 1), 0)), (((0,), 0.0), ((1,), 1), ((1, 1), 0)), (((0.0,), 0), ((1,), 1), ((1, 1), 0)),
                    ("a", "b", "c"), (((0,), "0"), ((1,), 1), ((1, 1), 0))]:
            with self.subTest(cut=cut):
                kind, fields = raised(leaves_one_tree, wirings, 0, cut)
                self.assertEqual(kind, "BadValue")
                self.assertIs(fields["value"], cut)

    def test_wrong_numbers(self):
        wirings = Wirings(read_ends("a, a~"), [((), ((0, 1),))])
        none = Wirings(read_ends("a, a~"), [])
        for call in (nodes_of, lines_of, bad_cut, lambda wirings, number: leaves_one_tree(wirings, number, None)):
            for number in [1, -1, True, False, None, "0", 0.0, (0,), [0], 10 ** 20]:
                kind, fields = raised(call, wirings, number)
                self.assertEqual(kind, "BadValue")
                self.assertIs(fields["value"], number)
            self.assertEqual(raised(call, none, 0), ("BadValue", {"value": 0}))
            for value in [None, 5, wirings.wirings, wirings.ends, (wirings.ends, wirings.wirings), Deed(link("a"))]:
                for number in (0, None):
                    kind, fields = raised(call, value, number)
                    self.assertEqual(kind, "BadValue")
                    self.assertIs(fields["value"], value)
        for value in [None, 5, wirings.wirings, Deed(link("a"))]:
            kind, fields = raised(first_unsound, value)
            self.assertEqual(kind, "BadValue")
            self.assertIs(fields["value"], value)

    def test_bad_cut_objects(self):
        made = BadCut((), ((0,), (0, 0), (0, 1)), None)
        self.assertEqual((made.cut, made.ring, made.loose), ((), ((0,), (0, 0), (0, 1)), None))
        made = BadCut(loose=((1,),), cut=(((0,), 1),), ring=None)
        self.assertEqual((made.cut, made.ring, made.loose), ((((0,), 1),), None, ((1,),)))
        self.assertFalse(made == BadCut((((0,), 1),), None, ((1,),)))
        self.assertTrue(made == made)
        ring, loose = [(0,), (0, 0), (0, 1)], [(1,)]
        made = BadCut((), ring, loose)
        ring.clear()
        loose.append((2,))
        self.assertEqual((list(made.ring), list(made.loose)), ([(0,), (0, 0), (0, 1)], [(1,)]))

    def test_equal_calls(self):
        wirings = Wirings(read_ends("a * a~, b | b~, (c | c~) * d, d~"), [((), ((0, 1), (2, 3), (4, 5), (6, 7)))])
        one, other = bad_cut(wirings, 0), bad_cut(wirings, number=0)
        self.assertEqual((one.cut, one.ring, one.loose), (other.cut, other.ring, other.loose))


class ManyBetweens(unittest.TestCase):
    def test_twelve(self):
        sound, unsound = wide(12), loops(12)
        self.assertEqual(len(picture(sound.ends, sound.wirings[0])[2]), 12)
        self.assertIsNone(bad_cut(sound, 0))
        self.assertIsNone(first_unsound(sound))
        told = bad_cut(unsound, 0)
        nodes, lines, _ = picture(unsound.ends, unsound.wirings[0])
        Pictures().check_bad(nodes, staying(lines, told.cut), told)
        self.assertEqual(first_unsound(unsound), 0)

    def test_more_than_twelve(self):
        for many in (13, 16):
            sound, unsound = wide(many), loops(many)
            for wirings in (sound, unsound):
                self.assertEqual(len(picture(wirings.ends, wirings.wirings[0])[2]), many)
                self.assertEqual(raised(bad_cut, wirings, 0), ("TooMany", {"most": 12}))
                self.assertEqual(raised(first_unsound, wirings), ("TooMany", {"most": 12}))
            cut = tuple((node, 0) for node in picture(sound.ends, sound.wirings[0])[2])
            self.assertIs(leaves_one_tree(sound, 0, cut), True)

    def test_only_met_betweens_count(self):
        many = grouped("between", [("between", A, anti("a"))] * 7)
        ends = [("offered", A, many), anti("a")]
        wirings = Wirings(ends, [(((0, 0),), ((0, 15),))])
        self.assertIsNone(bad_cut(wirings, 0))
        self.assertIsNone(first_unsound(wirings))

    def test_first_unsound(self):
        """Of two wirings the first one that is not sound."""
        left = Wirings(read_ends("(a | c) + (a * c), a~, c~"), [(((0, 1),), ((2, 4), (3, 5))), (((0, 0),), ((0, 4), (1, 5)))])
        self.assertEqual(first_unsound(left), 0)
        self.assertIsNone(bad_cut(left, 1))
        right = Wirings(read_ends("(a * c) + (a | c), a~, c~"), [(((0, 0),), ((0, 4), (1, 5))), (((0, 1),), ((2, 4), (3, 5)))])
        self.assertEqual(first_unsound(wirings=right), 1)
        self.assertIsNone(bad_cut(right, 0))

    def test_order_of_errors(self):
        """A wiring with more than twelve betweens counts where it stands, sound or not."""
        fifteen = grouped("between", [("between", A, anti("a"))] * 8)
        both, between = ("both", A, anti("a")), ("between", A, anti("a"))

        def links(start, count):
            return tuple((start + 2 * k, start + 2 * k + 1) for k in range(count))

        few_first = Wirings([("chosen", both, fifteen)], [(((0, 0),), ((0, 1),)), (((0, 1),), links(2, 8))])
        self.assertEqual(len(picture(few_first.ends, few_first.wirings[1])[2]), 15)
        self.assertEqual(first_unsound(few_first), 0)
        self.assertEqual(raised(bad_cut, few_first, 1), ("TooMany", {"most": 12}))
        sound_first = Wirings([("chosen", between, fifteen)], [(((0, 0),), ((0, 1),)), (((0, 1),), links(2, 8))])
        self.assertEqual(raised(first_unsound, sound_first), ("TooMany", {"most": 12}))
        self.assertIsNone(bad_cut(sound_first, 0))
        many_first = Wirings([("chosen", fifteen, both)], [(((0, 0),), links(0, 8)), (((0, 1),), ((16, 17),))])
        self.assertEqual(raised(first_unsound, many_first), ("TooMany", {"most": 12}))
        self.assertIsNotNone(bad_cut(many_first, 1))
        self.assertIsNone(first_unsound(Wirings([A], [])))

    def test_plain_deeds_of_many_betweens(self):
        form = read_ends("((a | b) * (c | d)) | ((e | f) * (g | h))")[0]
        wirings = wirings_of(plain_deed(form))
        self.assertEqual(len(picture(wirings.ends, wirings.wirings[0])[2]), 7)
        self.assertIsNone(bad_cut(wirings, 0))
        self.assertEqual(wirings.ends[1], counter_of(form))


if __name__ == "__main__":
    unittest.main()
