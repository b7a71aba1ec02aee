"""[43], [44], [85]: middles of deeds."""
import itertools
import random
import unittest

from alldeeds.deeds import Deed, plain_deed
from alldeeds.formtexts import ends_text, form_text, read_form
from alldeeds.likeness import alike
from alldeeds.midway import Midway, crossing_goods, middle_form, midway, rejoined
from alldeeds.wired import wirings_of
from making import (WITHOUT_HANDS, all_steps, anti, counter_of, good, has_hand, inversely, leaf_list, leaf_places, link,
                    names_in, raised, random_deeds)

A, B = good("a"), good("b")
LA, LB = link("a"), link("b")
PAIR = Deed(("both", LA, LB, 0, 0))
OFFER = Deed(("offer", LA, LA, 1, 1))
TWICE = Deed(("hand", LA, LA, 1, 0))


def partings_of(many):
    """All ascending tuples of some of so many numbers, at least one and not all."""
    return [left for size in range(1, many) for left in itertools.combinations(range(many), size)]


def flags_within(steps, flags):
    """For each step within, which of its ends are left, when those of the step are left or not as told."""
    word, rest, made = steps[0], list(flags[:-1]), flags[-1]
    if word == "turn":
        return [[flags[steps[2].index(k)] for k in range(len(flags))]]
    if word == "between":
        for at in sorted(steps[2:]):
            rest.insert(at, made)
        return [rest]
    if word == "choose":
        return [rest[:steps[2]] + [made] + rest[steps[2]:]]
    many = len(Deed(steps[1]).ends) - 1
    ones, others = (rest, rest) if word == "offer" else (rest[:many], rest[many:])
    return [ones[:steps[3]] + [made] + ones[steps[3]:], others[:steps[4]] + [made] + others[steps[4]:]]


def slow_middle(steps, flags):
    """The told middle as [44] tells it."""
    word = steps[0]
    if word == "link":
        return anti(steps[1]) if flags[0] else good(steps[1])
    below = flags_within(steps, flags)
    if word in ("turn", "between", "choose"):
        return slow_middle(steps[1], below[0])
    for one, other in ((0, 1), (1, 0)):
        if len(set(below[one])) == 1:
            return slow_middle(steps[1 + other], below[other])
    both = tuple(slow_middle(steps[1 + k], below[k]) for k in (0, 1))
    if word == "both":
        return ("between" if flags[-1] else "both",) + both
    return ("chosen" if flags[-1] else "offered",) + both


def told_middle(deed, left):
    return slow_middle(deed.steps, [k in left for k in range(len(deed.ends))])


def crossing(deed, left):
    """The goods that some wiring links between left and right ends."""
    leaves, places = leaf_list(deed.ends), leaf_places(deed.ends)
    found = set()
    for _, links in wirings_of(deed).wirings:
        for i, j in links:
            if (places[i] in left) != (places[j] in left):
                found.add(leaves[i][0][1])
    return tuple(sorted(found))


def hand_free(seed, many, names="ab", most_steps=24, most_leaves=9):
    """So many deeds without hand ons."""
    return random_deeds(seed, many, names, most_steps, most_leaves, (), WITHOUT_HANDS)


class Checks(unittest.TestCase):
    def check(self, deed, left):
        """Compares all that is told of this parting with what the document says."""
        right = [k for k in range(len(deed.ends)) if k not in left]
        form = told_middle(deed, left)
        half = midway(deed, left)
        self.assertIsInstance(half, Midway)
        self.assertEqual((half.form, middle_form(deed, left)), (form, form))
        self.assertEqual(half.one.ends, tuple([deed.ends[k] for k in left] + [form]))
        self.assertEqual(half.other.ends, tuple([counter_of(form)] + [deed.ends[k] for k in right]))
        self.assertFalse(has_hand(half.one.steps) or has_hand(half.other.steps))
        hand = Deed(("hand", half.one.steps, half.other.steps, len(left), 0))
        order = inversely(list(left) + right)
        self.assertTrue(alike(Deed(("turn", hand.steps, order)), deed))
        whole = rejoined(deed, left)
        self.assertTrue(alike(whole, deed))
        turned = order != tuple(range(len(order)))
        self.assertEqual(whole.steps, ("turn", hand.steps, order) if turned else hand.steps)
        self.assertEqual(crossing_goods(deed, left), crossing(deed, left))
        self.assertEqual(crossing_goods(deed, left), tuple(sorted(names_in(form))))


class Middles(Checks):
    def test_each_parting_of_drawn_deeds(self):
        deeds = hand_free(251, 250)
        cases = set()
        for deed in deeds:
            for left in partings_of(len(deed.ends)):
                self.check(deed, left)
                cases.add((deed.steps[0], len(deed.ends) - 1 in left, told_middle(deed, left)[0]))
        for case in [("link", False, "counter"), ("link", True, "good"), ("both", True, "between"), ("both", False, "both"),
                     ("offer", True, "chosen"), ("offer", False, "offered")]:
            self.assertIn(case, cases)

    def test_one_good(self):
        chance = random.Random(252)
        for deed in hand_free(253, 150, "a", 30, 10):
            for left in partings_of(len(deed.ends))[::2]:
                self.check(deed, left)
        for text in ["(a & b) | c~", "(a + b) & (c * a)", "((a | b) * (c & c)) + a"]:
            deed = plain_deed(read_form(text))
            self.check(deed, (chance.randrange(2),))

    def test_a_leaf_for_each_link_that_crosses(self):
        for text in ["a", "a * b", "(a & b) | c~", "((a | b) * (c & c)) + a"]:
            form = read_form(text)
            for left in ((0,), (1,)):
                self.assertEqual(len(leaf_list([middle_form(plain_deed(form), left)])), len(leaf_list([form])))
        self.assertEqual(middle_form(plain_deed(read_form("a * b")), (0,)), read_form("a~ | b~"))
        self.assertEqual(middle_form(plain_deed(read_form("a * b")), (1,)), read_form("a * b"))

    def test_lists_stand_for_tuples(self):
        for call in (midway, middle_form, crossing_goods, rejoined):
            one, other = call(PAIR, (0, 2)), call(PAIR, [0, 2])
            if call == midway:
                one, other = [(half.form, half.one, half.other) for half in (one, other)]
            self.assertEqual(one, other)

    def test_the_class(self):
        half = Midway(A, PAIR, OFFER)
        self.assertEqual(vars(half), {"form": A, "one": PAIR, "other": OFFER})
        self.assertEqual(vars(Midway(other=1, one=2, form=3)), {"form": 3, "one": 2, "other": 1})
        self.assertNotEqual(half, Midway(A, PAIR, OFFER))

    def test_equal_calls(self):
        one, other = midway(PAIR, (0,)), midway(PAIR, (0,))
        self.assertEqual(vars(one), vars(other))


class Cases(Checks):
    """Each case of [44]."""

    def check_form(self, steps, left, text):
        deed = Deed(steps)
        self.check(deed, left)
        self.assertEqual(form_text(middle_form(deed, left)), text)

    def test_link(self):
        self.check_form(LA, (0,), "a~")
        self.check_form(LA, (1,), "a")

    def test_turn(self):
        self.check_form(("turn", LA, (1, 0)), (0,), "a")
        self.check_form(("turn", PAIR.steps, (2, 0, 1)), (0,), "a~ | b~")

    def test_between(self):
        self.check_form(("between", PAIR.steps, 0, 1), (0,), "a~ | b~")
        self.check_form(("between", PAIR.steps, 0, 1), (1,), "a * b")
        self.check_form(("between", PAIR.steps, 2, 0), (1,), "b~")
        self.check_form(("between", PAIR.steps, 2, 0), (0,), "b")

    def test_choose(self):
        self.check_form(("choose", LA, 0, 1, B), (0,), "a")
        self.check_form(("choose", LA, 0, 1, B), (1,), "a~")

    def test_both(self):
        for left, text in [((0,), "a"), ((1,), "b"), ((2,), "a~ | b~"), ((0, 1), "a * b"), ((0, 2), "b~"), ((1, 2), "a~")]:
            self.check_form(PAIR.steps, left, text)

    def test_both_whose_steps_are_on_one_side(self):
        """Where the ends of one step, all of one side, also stand for a whole part of the deed."""
        block = ("between", ("both", LA, LB, 0, 0), 0, 1)
        for steps in [("both", block, ("link", "c"), 0, 0), ("both", ("link", "c"), block, 0, 1)]:
            for left in partings_of(3):
                self.check(Deed(steps), left)
        single = ("between", LA, 0, 1)
        self.check_form(("both", single, LB, 0, 0), (0,), "b")
        self.check_form(("both", single, LB, 0, 0), (1,), "b~")
        self.check_form(("both", LB, single, 0, 0), (1,), "b~")

    def test_offer(self):
        for steps, left, text in [(OFFER.steps, (0,), "a~ & a~"), (OFFER.steps, (1,), "a + a"),
                                  (("offer", LA, LA, 0, 0), (0,), "a & a"), (("offer", LA, LA, 0, 0), (1,), "a~ + a~")]:
            self.check_form(steps, left, text)
        three = ("offer", PAIR.steps, PAIR.steps, 0, 0)
        for left, text in [((0,), "b & b"), ((1,), "(a~ | b~) & (a~ | b~)"), ((2,), "a + a"), ((0, 1), "a~ & a~"),
                           ((0, 2), "(a * b) + (a * b)"), ((1, 2), "b~ + b~")]:
            self.check_form(three, left, text)

    def test_offer_within_offers(self):
        one = ("offer", LA, LA, 0, 0)
        two = ("offer", one, one, 0, 0)
        self.assertEqual(ends_text(Deed(two).ends), "a & a, a~ & a~")
        self.check_form(two, (0,), "(a~ + a~) & (a~ + a~)")
        self.check_form(two, (1,), "(a & a) + (a & a)")

    def test_offer_of_steps_that_differ_in_order(self):
        """The two left deeds, and the two right deeds, come with their ends in unlike orders."""
        other = ("turn", ("both", LB, LA, 0, 0), (1, 0, 2))
        self.check_form(("offer", PAIR.steps, other, 2, 2), (0, 1), "(a * b) & (b * a)")
        self.check_form(("offer", PAIR.steps, other, 2, 2), (2,), "(a~ | b~) + (b~ | a~)")
        three = ("both", PAIR.steps, link("c"), 2, 0)
        other = ("turn", ("both", link("c"), other, 0, 2), (1, 2, 0, 3))
        self.assertEqual(ends_text(Deed(other).ends), "a~, b~, c~, c * (b * a)")
        for left in partings_of(4):
            self.check(Deed(("offer", three, other, 3, 3)), left)
            self.check(Deed(("offer", other, three, 3, 3)), left)

    def test_order_of_parts(self):
        """one stands ahead of other in the middle, whatever the order of the ends is."""
        steps = ("both", link("c"), ("both", LA, LB, 0, 0), 0, 2)
        self.check_form(steps, (0, 1, 2), "c * (a * b)")
        self.check_form(steps, (3,), "c~ | (a~ | b~)")


def grown(steps, many):
    """An offer of so many equal steps at their first end, and of what is left of it again."""
    made = steps
    for k in range(many):
        last = len(Deed(steps).ends) - 1
        made = ("offer", made, steps, 0 if k == 0 else last, 0)
    return made


def padded(many):
    """Steps with the one end a | a~, within so many turns."""
    steps = ("between", LA, 0, 1)
    for _ in range(many):
        steps = ("turn", steps, (0,))
    return steps


def chain(many):
    """So many boths of links of b, one after the other: counters, and then the end with all goods."""
    steps = ("turn", LB, (1, 0))
    for k in range(many):
        steps = ("both", steps, LB, k + 1, 0)
    return steps


class TooGreat(Checks):
    def test_too_deep(self):
        """Offers so deep in one end, and then so deep in the other one."""
        for many, more in [(12, 0), (11, 1)]:
            deed = Deed(grown(grown(LA, many), more))
            for left in ((0,), (1,)):
                self.check(deed, left)
        for many, more in [(6, 7), (7, 6), (12, 1)]:
            deed = Deed(grown(grown(LA, many), more))
            for left in ((0,), (1,)):
                for call in (midway, middle_form, rejoined):
                    self.assertEqual(raised(call, deed, left), ("TooDeep", {"most": 12}))
                self.assertEqual(crossing_goods(deed, left), ("a",))

    def test_too_many_leaves(self):
        for many, more in [(10, 3), (8, 4)]:
            # exactly 40 leaves in the ends of the left deed
            deed = Deed(grown(grown(LA, many - 1), more - 1))
            self.assertEqual([len(leaf_list([end])) for end in deed.ends], [many, more])
            self.check(deed, (0,))
            self.assertEqual(len(leaf_list(midway(deed, (0,)).one.ends)), 40)
        # the middle has 40 leaves: it is told, but both deeds would have more
        deed = Deed(grown(grown(LA, 9), 3))
        for left in ((0,), (1,)):
            self.assertEqual(len(leaf_list([middle_form(deed, left)])), 40)
            for call in (midway, rejoined):
                self.assertEqual(raised(call, deed, left), ("TooMany", {"most": 40}))
        self.assertEqual(crossing_goods(deed, (0,)), ("a",))
        deed = Deed(grown(grown(LA, 6), 5))
        self.assertEqual(len(leaf_list([told_middle(deed, (0,))])), 42)
        for call in (midway, middle_form, rejoined):
            for left in ((0,), (1,)):
                self.assertEqual(raised(call, deed, left), ("TooMany", {"most": 40}))
        self.assertEqual(crossing_goods(deed, (1,)), ("a",))

    def test_the_right_deed_has_too_many_leaves(self):
        deed = Deed(grown(grown(LA, 3), 8))
        self.assertEqual([len(leaf_list([end])) for end in deed.ends], [4, 9])
        for left in ((0,), (1,)):
            self.assertEqual(raised(midway, deed, left), ("TooMany", {"most": 40}))
            self.assertEqual(len(leaf_list([middle_form(deed, left)])), 36)

    def test_too_deep_ahead_of_too_many(self):
        deed = Deed(grown(grown(LA, 10), 4))
        self.assertEqual(len(leaf_list([told_middle(deed, (0,))])), 55)
        for call in (midway, middle_form, rejoined):
            self.assertEqual(raised(call, deed, (1,)), ("TooDeep", {"most": 12}))

    def test_very_many_wirings(self):
        """More wirings than wirings_of tells."""
        offer = ("offer", LA, LA, 0, 0)
        steps = ("both", offer, LB, 0, 0)
        for k in range(11):
            steps = ("both", steps, offer, 2 + k, 0)
        deed = Deed(steps)
        self.assertEqual(raised(wirings_of, deed), ("TooMany", {"most": 2000}))
        self.assertEqual(ends_text(deed.ends[:3]), "a & a, b~, a & a")
        for left, goods in [((0,), ("a",)), ((1,), ("b",)), ((0, 1), ("a", "b")), ((13,), ("a", "b")), ((1, 13), ("a",))]:
            self.assertEqual(crossing_goods(deed, left), goods)

    def test_the_left_deed_is_too_deep(self):
        """It has a between more for each both that is parted; what lies whole on one side is told as it is."""
        steps = padded(90)
        for k in range(8):
            steps = ("both", steps, LB, k, 0)
        deed = Deed(steps)
        self.assertEqual(form_text(middle_form(deed, (8,))).count("b~"), 8)
        for call in (midway, rejoined):
            self.assertEqual(raised(call, deed, (8,)), ("TooDeep", {"most": 100}))

    def test_the_left_deed_has_too_many_steps(self):
        four, less = [("both", ("both", padded(k), padded(k), 0, 0), ("both", padded(k), padded(k), 0, 0), 0, 0) for k in (89, 88)]
        deed = Deed(("both", four, chain(11), 0, 12))
        self.assertEqual(deed.size(), 392)
        for call in (midway, rejoined):
            self.assertEqual(raised(call, deed, (12,)), ("TooMany", {"most": 400}))
        deed = Deed(("both", less, chain(11), 0, 12))
        self.assertEqual(midway(deed, (12,)).form, told_middle(deed, (12,)))

    def test_their_hand_on_has_too_many_steps(self):
        whole = ("both", padded(91), padded(91), 0, 0)
        deed = Deed(("both", ("both", whole, chain(7), 0, 8), whole, 0, 0))
        half = midway(deed, (7,))
        self.assertEqual(half.form, told_middle(deed, (7,)))
        self.assertGreater(half.one.size() + half.other.size(), 400)
        self.assertEqual(raised(rejoined, deed, (7,)), ("TooMany", {"most": 400}))


class WrongArguments(unittest.TestCase):
    CALLS = (midway, middle_form, crossing_goods, rejoined)

    def test_no_deed(self):
        for value in [None, 5, LA, PAIR.steps, wirings_of(PAIR), "link a", ()]:
            for call in self.CALLS:
                for left in ((0,), None, (5,)):
                    kind, fields = raised(call, value, left)
                    self.assertEqual(kind, "BadValue")
                    self.assertIs(fields["value"], value)

    def test_no_left_ends(self):
        for left in [(), (0, 1, 2), (1, 0), (0, 0), (3,), (-1,), (True,), (0, False), None, 0, "0", ("0",), [0, 1, 2], [], [1, 0],
                     ((0,),), {0: 1}, (0.0,), range(1), (0, 1, 2, 3), (2, 2)]:
            for call in self.CALLS:
                kind, fields = raised(call, PAIR, left)
                self.assertEqual(kind, "BadValue")
                self.assertIs(fields["value"], left)
        single = Deed(("between", LA, 0, 1))
        for left in [(0,), ()]:
            self.assertEqual(raised(midway, single, left), ("BadValue", {"value": left}))

    def test_hand_ons(self):
        inner = Deed(("both", LB, ("hand", LA, ("hand", LA, LA, 1, 0), 1, 0), 0, 0))
        for deed, at in [(TWICE, 3), (inner, 5), (Deed(("turn", TWICE.steps, (1, 0))), 3)]:
            self.assertEqual(all_steps(deed.steps)[at - 1][0], "hand")
            for call in self.CALLS:
                self.assertEqual(raised(call, deed, (0,)), ("HasHand", {"at": at}))
                self.assertEqual(raised(call, deed, (0, 0)), ("BadValue", {"value": (0, 0)}))

    def test_hand_ons_ahead_of_what_is_too_great(self):
        deed = Deed(("both", TWICE.steps, grown(grown(LA, 7), 7), 0, 0))
        for call in self.CALLS:
            self.assertEqual(raised(call, deed, (0, 2)), ("HasHand", {"at": 3}))

    def test_by_name(self):
        self.assertEqual(middle_form(deed=PAIR, left=(0, 1)), read_form("a * b"))
        self.assertEqual(crossing_goods(left=(0, 2), deed=PAIR), ("b",))
        self.assertEqual(midway(deed=PAIR, left=(2,)).form, read_form("a~ | b~"))
        self.assertEqual(rejoined(deed=PAIR, left=(0, 1)).ends, PAIR.ends)
        self.assertEqual(PAIR.steps, ("both", LA, LB, 0, 0))


if __name__ == "__main__":
    unittest.main()
