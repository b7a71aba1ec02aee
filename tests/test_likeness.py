"""[14], [69]: alike deeds, and the entries over two things by which others part."""
import random
import unittest

from alldeeds.deeds import Deed, plain_deed
from alldeeds.formtexts import read_form
from alldeeds.likeness import alike, first_unlike, parting
from alldeeds.wired import wirings_of
from making import anti, deed_meaning, good, link, raised, random_deeds

A, B = good("a"), good("b")
LA, LB = link("a"), link("b")
PAIR = ("both", LA, LB, 0, 0)
STRAIGHT = ("both", LA, LA, 0, 0)
CROSSED = ("turn", STRAIGHT, (1, 0, 2))


def same_ends(deeds):
    """The pairs of deeds that have the same ends."""
    return [(one, other) for k, one in enumerate(deeds) for other in deeds[k:] if one.ends == other.ends]


def too_many():
    """Steps with more than 2,000 wirings."""
    steps = LA
    for _ in range(11):
        steps = ("both", steps, ("offer", LA, LA, 0, 0), 0, 0)
    return steps


class Checks(unittest.TestCase):
    def check_pair(self, one, other):
        """Compares what is told of two deeds of the same ends with their wirings and entries."""
        ones, others = dict(wirings_of(one).wirings), dict(wirings_of(other).wirings)
        entries, other_entries = deed_meaning(one), deed_meaning(other)
        self.assertEqual(ones == others, entries == other_entries)
        self.assertIs(alike(one, other), ones == others)
        first = first_unlike(one, other)
        parted = parting(one, other)
        if ones == others:
            self.assertIsNone(first)
            self.assertIsNone(parted)
            return
        choice = min(c for c in list(ones) + list(others) if ones.get(c) != others.get(c))
        self.assertEqual(first, (choice, ones.get(choice), others.get(choice)))
        self.assertIsInstance(first, tuple)
        which, entry = parted
        self.assertIsInstance(parted, tuple)
        self.assertIn(which, (0, 1))
        self.assertNotIsInstance(which, bool)
        told, untold = (entries, other_entries) if which == 0 else (other_entries, entries)
        self.assertIn(entry, told)
        self.assertNotIn(entry, untold)

    def check(self, one, other):
        self.check_pair(one, other)
        self.check_pair(other, one)


class Alike(Checks):
    def test_exchanged_steps(self):
        c = link("c")
        one = ("both", ("both", LA, LB, 0, 1), c, 0, 1)
        self.check(Deed(one), Deed(one))
        # between of the first two and both of the others, in either order
        first = ("both", ("between", PAIR, 0, 1), c, 0, 1)
        second = ("between", ("both", PAIR, c, 2, 1), 0, 1)
        self.assertEqual(set(Deed(first).ends), set(Deed(second).ends))
        order = tuple(Deed(second).ends.index(end) for end in Deed(first).ends)
        turned = ("turn", second, order)
        self.assertNotEqual(Deed(first), Deed(turned))
        self.assertTrue(alike(Deed(first), Deed(turned)))
        self.assertTrue(alike(Deed(turned), Deed(first)))
        self.check(Deed(first), Deed(turned))

    def test_steps_ahead_of_an_offer_or_in_both_of_its_steps(self):
        offer = ("offer", PAIR, PAIR, 2, 2)
        after = ("between", offer, 0, 1)
        within = ("between", PAIR, 0, 1)
        before = ("offer", within, within, 0, 0)
        self.assertEqual(Deed(before).ends, (("between", anti("a"), anti("b")), Deed(offer).ends[2]))
        turned = Deed(("turn", after, (1, 0)))
        self.assertTrue(alike(turned, Deed(before)))
        self.assertTrue(alike(Deed(before), turned))

    def test_hands_and_turns_within(self):
        for deed in random_deeds(71, 80):
            form = deed.ends[-1]
            last = len(deed.ends) - 1
            other = Deed(("hand", deed.steps, plain_deed(form).steps, last, 1))
            self.assertEqual(deed.ends, other.ends)
            self.assertIs(alike(deed, other), True)
            self.assertIsNone(first_unlike(deed, other))
            self.assertIsNone(parting(other, deed))
            turned = Deed(("turn", ("turn", deed.steps, tuple(range(last, -1, -1))), tuple(range(last, -1, -1))))
            self.assertTrue(alike(turned, deed))

    def test_random_deeds(self):
        """Deeds beside those in which equal ends have changed their places."""
        unlike = 0
        for seed in range(72, 77):
            for deed in random_deeds(seed, 120, names="a"):
                for i in range(len(deed.ends)):
                    for j in range(i):
                        if deed.ends[i] == deed.ends[j]:
                            order = list(range(len(deed.ends)))
                            order[i], order[j] = j, i
                            other = Deed(("turn", deed.steps, tuple(order)))
                            self.check(deed, other)
                            unlike += wirings_of(deed) != wirings_of(other)
            pairs = same_ends(random_deeds(seed, 120))
            for one, other in random.Random(seed).sample(pairs, min(80, len(pairs))):
                self.check(one, other)
        self.assertGreater(unlike, 20)


class NotAlike(Checks):
    def test_crossed_ends(self):
        self.check(Deed(STRAIGHT), Deed(CROSSED))
        self.assertFalse(alike(Deed(STRAIGHT), Deed(CROSSED)))
        self.assertEqual(first_unlike(Deed(CROSSED), Deed(STRAIGHT)), ((), ((0, 3), (1, 2)), ((0, 2), (1, 3))))
        self.assertEqual(first_unlike(one=Deed(STRAIGHT), other=Deed(CROSSED)), ((), ((0, 2), (1, 3)), ((0, 3), (1, 2))))

    def test_three_crossed(self):
        steps = ("both", STRAIGHT, LA, 2, 0)
        orders = [(0, 1, 2), (0, 2, 1), (1, 0, 2), (1, 2, 0), (2, 0, 1), (2, 1, 0)]
        deeds = [Deed(("turn", steps, order + (3,))) for order in orders]
        for one in deeds:
            for other in deeds:
                self.check(one, other)
                self.assertEqual(alike(one, other), one == other)

    def test_other_choices(self):
        """Two deeds of the same ends that choose unlike sides."""
        one, other = Deed(("choose", LA, 1, 0, anti("a"))), Deed(("choose", LA, 1, 1, anti("a")))
        self.assertEqual(one.ends, other.ends)
        self.assertEqual(first_unlike(one, other), (((0, 0),), ((0, 1),), None))
        self.assertEqual(first_unlike(other, one), (((0, 0),), None, ((0, 1),)))
        self.check(one, other)

    def test_links_that_differ_behind_a_choice(self):
        pair = ("both", STRAIGHT, ("between", LA, 0, 1), 2, 0)
        crossed = ("both", CROSSED, ("between", LA, 0, 1), 2, 0)
        self.check(Deed(("offer", pair, crossed, 2, 2)), Deed(("offer", pair, pair, 2, 2)))
        told = first_unlike(Deed(("offer", pair, crossed, 2, 2)), Deed(("offer", pair, pair, 2, 2)))
        self.assertEqual(told[0], ((0, 1),))
        self.check(Deed(("offer", crossed, pair, 2, 2)), Deed(("offer", pair, crossed, 2, 2)))

    def test_choices_of_the_other_alone_come_first(self):
        """The first choice is the least of both, whichever deed has it."""
        left = ("choose", ("offer", LA, LA, 1, 1), 0, 0, A)
        right = ("choose", ("offer", LA, LA, 1, 1), 0, 1, A)
        one, other = Deed(left), Deed(right)
        self.assertEqual(one.ends, other.ends)
        self.check(one, other)
        self.assertEqual(first_unlike(one, other), (((0, 0), (1, 0)), ((0, 2),), None))
        self.assertEqual(first_unlike(other, one), (((0, 0), (1, 0)), None, ((0, 2),)))

    def test_one_link_alone_differs(self):
        """Most links are the same: those that differ must be found."""
        rest = ("both", LB, ("both", LB, link("c"), 0, 0), 0, 2)
        one = Deed(("both", STRAIGHT, rest, 2, 2))
        order = list(range(len(one.ends)))
        order[0], order[1] = 1, 0
        other = Deed(("turn", one.steps, tuple(order)))
        self.assertEqual(one.ends, other.ends)
        self.check(one, other)


class Ends(unittest.TestCase):
    def test_unlike_ends(self):
        turned = Deed(("turn", PAIR, (1, 0, 2)))
        for one, other in [(Deed(LA), Deed(LB)), (Deed(LA), Deed(("turn", LA, (1, 0)))), (Deed(PAIR), turned),
                           (Deed(PAIR), Deed(("between", PAIR, 0, 1))), (Deed(LA), Deed(too_many())),
                           (plain_deed(read_form("a & b")), plain_deed(read_form("b & a")))]:
            for told in [(one, other), (other, one)]:
                self.assertIs(alike(*told), False)
                self.assertEqual(raised(first_unlike, *told), ("Unlike", {}))
                self.assertEqual(raised(parting, *told), ("Unlike", {}))

    def test_too_many(self):
        great = Deed(too_many())
        order = tuple(range(len(great.ends)))
        other = Deed(("turn", great.steps, order))
        for call in (alike, first_unlike, parting):
            for told in [(great, other), (other, great), (great, great)]:
                self.assertEqual(raised(call, *told), ("TooMany", {"most": 2000}))

    def test_many_wirings(self):
        steps = LA
        for _ in range(8):
            steps = ("both", steps, ("offer", LA, LA, 0, 0), 0, 0)
        one = Deed(steps)
        goods = [k for k, end in enumerate(one.ends) if end == one.ends[0]]
        self.assertEqual(len(wirings_of(one).wirings), 256)
        order = list(range(len(one.ends)))
        self.assertTrue(alike(one, Deed(("turn", steps, tuple(order)))))
        order[goods[0]], order[goods[-1]] = goods[-1], goods[0]
        other = Deed(("turn", steps, tuple(order)))
        self.assertEqual(one.ends, other.ends)
        self.assertIs(alike(one, other), len(goods) == 1)

    def test_no_deeds(self):
        deed = Deed(LA)
        for value in [None, LA, 5, "link a", wirings_of(deed)]:
            for call in (alike, first_unlike, parting):
                for one, other in [(value, deed), (deed, value), (value, None), (value, 7)]:
                    kind, fields = raised(call, one, other)
                    self.assertEqual(kind, "BadValue")
                    self.assertIs(fields["value"], value)


if __name__ == "__main__":
    unittest.main()
