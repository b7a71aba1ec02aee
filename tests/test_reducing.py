"""[24], [25], [26], [76]: ready hand ons, reducing them, and deeds without hand ons."""
import random
import unittest

from alldeeds.deeds import Deed, plain_deed
from alldeeds.formtexts import ends_text, read_form
from alldeeds.likeness import alike
from alldeeds.reducing import ready_hands, reduced, without_hands
from alldeeds.wired import wirings_of
from making import (all_steps, forked_deeds, good, handing_deeds, has_hand, leaf_list, link, raised, random_deeds,
                    steps_within)

A, B = good("a"), good("b")
LA, LB, LC = link("a"), link("b"), link("c")
TA = ("turn", LA, (1, 0))
PAIR = ("both", LA, LB, 0, 0)
TWICE = ("hand", LA, LA, 1, 0)


def many_ends(steps):
    return len(Deed(steps).ends)


def but(row, at):
    return row[:at] + row[at + 1:]


def turned(steps, tags, order):
    """The steps, whose ends have the tags, turned into the order of tags."""
    if tags == order:
        return steps
    if steps[0] != "turn":
        return ("turn", steps, tuple(tags.index(tag) for tag in order))
    within = [tags[steps[2].index(k)] for k in range(len(tags))]
    return steps[1] if within == order else ("turn", steps[1], tuple(within.index(tag) for tag in order))


def put(row, at, tag):
    return row[:at] + [tag] + row[at:]


def tags_within(step, tags):
    """The tags of the ends of each step within a step that does not hand on; its halves are tagged one and other."""
    rest = tags[:-1]
    if step[0] == "between":
        (i, one), (j, other) = sorted(zip(step[2:], ("one", "other")))
        return [put(put(rest, i, one), j, other)]
    if step[0] == "choose":
        return [put(rest, step[2], "one")]
    ones, others = (rest, rest) if step[0] == "offer" else (rest[:many_ends(step[1]) - 1], rest[many_ends(step[1]) - 1:])
    return [put(ones, step[3], "one"), put(others, step[4], "other")]


def again(step, within):
    """The step with other, tagged steps within, at the same ends; and its tags but the last one."""
    if step[0] == "between":
        steps, tags = within[0]
        told = ("between", steps, tags.index("one"), tags.index("other"))
        return told, [tag for tag in tags if tag not in ("one", "other")]
    if step[0] == "choose":
        steps, tags = within[0]
        return ("choose", steps, tags.index("one")) + step[3:], [tag for tag in tags if tag != "one"]
    (steps, tags), (other, other_tags) = within
    told = (step[0], steps, other, tags.index("one"), other_tags.index("other"))
    rest = [tag for tag in tags if tag != "one"]
    return told, rest if step[0] == "offer" else rest + [tag for tag in other_tags if tag != "other"]


def handed_on(one, other, tag, counter_tag):
    """The hand on of two tagged steps at the ends with these tags."""
    (steps, tags), (there, there_tags) = one, other
    i, j = tags.index(tag), there_tags.index(counter_tag)
    return ("hand", steps, there, i, j), but(tags, i) + but(there_tags, j)


def inside(step, tags, here, hand):
    """The step told again, with what hand makes of each step within that has the end tagged here."""
    within = []
    for one, below in zip(steps_within(step), tags_within(step, tags)):
        within.append(hand((one, below)) if here in below else (one, below))
    told, rest = again(step, within)
    return told, rest + tags[-1:]


def made_by_both(d, f, d_tags, f_tags):
    """The cases 7 to 10, in which the ends stand in the right order."""
    if d[0] == "both":
        (_, x, y, a, b), (_, z, c, e) = d, f
        h = ("hand", y, z, b, e)
        return ("hand", x, h, a, many_ends(y) - 1 + c - (e < c))
    if d[0] == "between":
        (_, z, a, b), (_, x, y, c, e) = d, f
        h = ("hand", z, x, a, c)
        return ("hand", h, y, b - (a < b), e)
    if d[0] == "offer":
        (_, x, y, a, b), (_, z, c, side, _) = d, f
        return ("hand", (x, y)[side], z, (a, b)[side], c)
    (_, z, a, side, _), (_, x, y, c, e) = d, f
    return ("hand", z, (x, y)[side], a, (c, e)[side])


def slow_reduced(steps):
    """What a ready hand on is reduced to, and the number of the case."""
    _, d, f, i, j = steps
    d_tags, f_tags = [("d", k) for k in range(many_ends(d))], [("f", k) for k in range(many_ends(f))]
    order = but(d_tags, i) + but(f_tags, j)
    if d[0] == "link":
        return turned(f, put(but(f_tags, j), j, d_tags[1 - i]), order), 1
    if f[0] == "link":
        return turned(d, put(but(d_tags, i), i, f_tags[1 - j]), order), 2
    here, there = d_tags[i], f_tags[j]
    for case, step, tags in ((3, d, d_tags), (4, f, f_tags)):
        if step[0] == "turn":
            within = (step[1], [tags[step[2].index(k)] for k in range(len(tags))])
            told = handed_on(within, (f, f_tags), here, there) if case == 3 else handed_on((d, d_tags), within, here, there)
            return turned(told[0], told[1], order), case
    if i != len(d_tags) - 1:
        told, tags = inside(d, d_tags, here, lambda one: handed_on(one, (f, f_tags), here, there))
        return turned(told, tags, order), 5
    if j != len(f_tags) - 1:
        told, tags = inside(f, f_tags, there, lambda one: handed_on((d, d_tags), one, here, there))
        return turned(told, tags, order), 6
    return made_by_both(d, f, d_tags, f_tags), {"both": 7, "between": 8, "offer": 9, "choose": 10}[d[0]]


def with_step(steps, at, change):
    """The steps in which the step with this number is changed."""
    if at == len(all_steps(steps)):
        return change(steps)
    within = []
    for one in steps_within(steps):
        many = len(all_steps(one))
        within.append(with_step(one, at, change) if 1 <= at <= many else one)
        at -= many
    return steps[:1] + tuple(within) + steps[1 + len(within):]


def slow_ready(deed):
    found = []
    for number, step in enumerate(all_steps(deed.steps), 1):
        if step[0] == "hand" and not has_hand(step[1]) and not has_hand(step[2]):
            found.append(number)
    return tuple(found)


class Checks(unittest.TestCase):
    def check(self, deed, at):
        """Reduces one ready hand on and compares; the deed that comes out and the case."""
        cases = []

        def change(steps):
            told, case = slow_reduced(steps)
            cases.append(case)
            return told

        right = with_step(deed.steps, at, change)
        found = reduced(deed, at)
        self.assertIsInstance(found, Deed)
        self.assertEqual(found.steps, right)
        self.assertEqual(found.ends, deed.ends)
        return found, cases[0]

    def check_case(self, steps, number, text):
        """The whole deed is the hand on: its case, and the steps that come out."""
        deed = Deed(steps)
        found, case = self.check(deed, deed.size())
        self.assertEqual((case, found.steps), (number, text))
        self.assertTrue(alike(found, deed))


class Reduced(Checks):
    def test_each_step_on_the_way(self):
        cases = {}
        for deed in handing_deeds(271, 160) + forked_deeds(272, 250)[-50:] + random_deeds(273, 250)[-50:]:
            whole = wirings_of(deed)
            many = 0
            left = deed
            while has_hand(left.steps):
                self.assertEqual(ready_hands(left), slow_ready(left))
                step = all_steps(left.steps)[ready_hands(left)[0] - 1]
                left, case = self.check(left, ready_hands(left)[0])
                cases.setdefault(case, set()).add((step[1][0], step[2][0]))
                many += 1
                self.assertEqual(wirings_of(left), whole)
            found = without_hands(deed)
            self.assertEqual((found[0].steps, found[1]), (left.steps, many))
            self.assertEqual(ready_hands(left), ())
        self.assertEqual(sorted(cases), list(range(1, 11)))
        self.assertTrue({one for one, _ in cases[5]} >= {"both", "between", "offer", "choose"})
        self.assertTrue({other for _, other in cases[6]} >= {"both", "between", "offer", "choose"})

    def test_any_ready_hand_on(self):
        several = 0
        for deed in [deed for deed in handing_deeds(274, 300) + forked_deeds(275, 300) if len(ready_hands(deed)) > 1]:
            several += 1
            for at in ready_hands(deed):
                found, _ = self.check(deed, at)
                self.assertTrue(alike(found, deed))
        self.assertGreater(several, 50)

    def test_any_order(self):
        chance = random.Random(276)
        for deed in [deed for deed in handing_deeds(277, 250) + forked_deeds(278, 250) if len(ready_hands(deed)) > 1]:
            whole, _ = without_hands(deed)
            left = deed
            while ready_hands(left):
                left = reduced(left, chance.choice(ready_hands(left)))
            self.assertFalse(has_hand(left.steps))
            self.assertTrue(alike(whole, left) and alike(whole, deed))


class Cases(Checks):
    """Each case of [25] by itself, with the steps that come out."""

    def test_1_the_first_is_a_link(self):
        self.check_case(("hand", LA, PAIR, 0, 0), 1, PAIR)
        self.check_case(("hand", LA, ("turn", PAIR, (2, 0, 1)), 0, 1), 1, ("turn", PAIR, (0, 2, 1)))
        self.check_case(("hand", LA, ("turn", PAIR, (1, 0, 2)), 0, 1), 1, PAIR)
        self.check_case(("hand", LB, PAIR, 0, 1), 1, ("turn", PAIR, (1, 0, 2)))
        self.check_case(("hand", LA, TA, 1, 1), 1, LA)
        self.check_case(("hand", LA, TA, 0, 0), 1, TA)
        self.check_case(("hand", LA, LA, 1, 0), 1, LA)
        self.check_case(("hand", LA, LA, 0, 1), 1, TA)

    def test_2_the_second_is_a_link(self):
        self.check_case(("hand", PAIR, LA, 0, 0), 2, ("turn", PAIR, (1, 2, 0)))
        self.check_case(("hand", PAIR, LB, 1, 0), 2, ("turn", PAIR, (0, 2, 1)))
        self.check_case(("hand", TA, LA, 0, 0), 2, LA)
        self.check_case(("hand", TA, LA, 1, 1), 2, TA)
        self.check_case(("hand", ("turn", PAIR, (1, 2, 0)), LA, 2, 0), 2, ("turn", PAIR, (1, 2, 0)))

    def test_3_the_first_is_a_turn(self):
        told = ("hand", ("turn", PAIR, (2, 0, 1)), ("between", PAIR, 0, 1), 0, 1)
        self.check_case(told, 3, ("hand", PAIR, ("between", PAIR, 0, 1), 2, 1))
        told = ("hand", ("turn", PAIR, (1, 0, 2)), ("between", PAIR, 0, 1), 2, 1)
        self.check_case(told, 3, ("turn", ("hand", PAIR, ("between", PAIR, 0, 1), 2, 1), (1, 0, 2)))
        self.check_case(("hand", TA, TA, 0, 1), 3, ("hand", LA, TA, 1, 1))

    def test_4_the_second_is_a_turn(self):
        told = ("hand", PAIR, ("turn", ("between", PAIR, 0, 1), (1, 0)), 2, 0)
        self.check_case(told, 4, ("hand", PAIR, ("between", PAIR, 0, 1), 2, 1))
        told = ("hand", PAIR, ("turn", ("both", LA, LC, 1, 0), (2, 1, 0)), 0, 2)
        self.check_case(told, 4, ("turn", ("hand", PAIR, ("both", LA, LC, 1, 0), 0, 0), (0, 1, 3, 2)))

    def test_5_the_first_does_not_make_the_end(self):
        f = ("both", LA, LC, 1, 0)
        self.assertEqual(ends_text(Deed(f).ends), "a, c~, a~ * c")
        # of a both, the step that has the end
        self.check_case(("hand", PAIR, f, 0, 0), 5, ("turn", ("both", ("hand", LA, f, 1, 0), LB, 0, 0), (2, 3, 0, 1)))
        told = ("both", LB, LA, 0, 0)
        self.check_case(("hand", told, f, 1, 0), 5, ("turn", ("both", LB, ("hand", LA, f, 1, 0), 0, 0), (0, 3, 1, 2)))
        # of a between and a choose
        told = ("between", PAIR, 1, 2)
        self.check_case(("hand", told, f, 0, 0), 5, ("turn", ("between", ("hand", PAIR, f, 0, 0), 0, 1), (2, 0, 1)))
        told = ("choose", LA, 0, 1, B)
        self.check_case(("hand", told, f, 0, 0), 5, ("turn", ("choose", ("hand", LA, f, 1, 0), 0, 1, B), (2, 0, 1)))

    def test_5_both_steps_of_an_offer_have_the_end(self):
        f = ("both", LA, LC, 1, 0)
        hand = ("hand", LA, f, 1, 0)
        self.check_case(("hand", ("offer", LA, LA, 0, 0), f, 0, 0), 5, ("turn", ("offer", hand, hand, 0, 0), (2, 0, 1)))
        third = ("offer", PAIR, ("turn", PAIR, (2, 0, 1)), 2, 0)
        self.assertEqual(ends_text(Deed(third).ends), "a~, b~, (a * b) & (a * b)")
        left = ("hand", PAIR, f, 0, 0)
        right = ("hand", ("turn", PAIR, (2, 0, 1)), f, 1, 0)
        self.check_case(("hand", third, f, 0, 0), 5, ("turn", ("offer", left, right, 1, 0), (0, 3, 1, 2)))

    def test_6_the_second_does_not_make_the_end(self):
        d = PAIR
        f = ("both", ("between", PAIR, 0, 1), LC, 0, 0)
        self.assertEqual(ends_text(Deed(f).ends), "a~ | b~, c~, (a * b) * c")
        hand = ("hand", d, ("between", PAIR, 0, 1), 2, 1)
        self.check_case(("hand", d, f, 2, 0), 6, ("both", hand, LC, 2, 0))
        f = ("both", LC, ("between", PAIR, 0, 1), 0, 0)
        self.check_case(("hand", d, f, 2, 1), 6, ("turn", ("both", LC, hand, 0, 2), (1, 2, 0, 3)))
        f = ("choose", ("between", PAIR, 0, 1), 0, 0, B)
        self.check_case(("hand", d, f, 2, 0), 6, ("choose", hand, 2, 0, B))

    def test_6_both_steps_of_an_offer_have_the_end(self):
        d = ("both", LA, LB, 0, 0)
        y = ("between", PAIR, 0, 1)
        hand = ("hand", d, y, 2, 1)
        self.check_case(("hand", d, ("offer", y, y, 0, 0), 2, 0), 6, ("offer", hand, hand, 2, 2))

    def test_7_both_to_between(self):
        inner = ("hand", LB, PAIR, 0, 1)
        self.check_case(("hand", PAIR, ("between", PAIR, 0, 1), 2, 1), 7, ("hand", LA, inner, 0, 1))
        # the other half of the between ahead of the one
        z = ("turn", PAIR, (1, 0, 2))
        inner = ("hand", LB, z, 0, 0)
        self.check_case(("hand", PAIR, ("between", z, 1, 0), 2, 1), 7, ("hand", LA, inner, 0, 1))
        x, y = ("both", LC, LA, 0, 0), ("turn", ("both", LB, LC, 0, 0), (2, 0, 1))
        d = ("both", x, y, 1, 1)
        self.assertEqual(ends_text(Deed(d).ends), "c~, c * a, b * c, c~, a~ * b~")
        f = ("between", ("turn", ("both", LA, LB, 1, 1), (2, 0, 1)), 1, 2)
        self.assertEqual(ends_text(Deed(f).ends), "a~ * b~, a | b")
        inner = ("hand", y, f[1], 1, 2)
        self.check_case(("hand", d, f, 4, 1), 7, ("hand", x, inner, 1, 3))

    def test_8_between_to_both(self):
        d = ("between", PAIR, 0, 1)
        inner = ("hand", PAIR, LA, 0, 0)
        self.check_case(("hand", d, PAIR, 1, 2), 8, ("hand", inner, LB, 0, 0))
        z = ("turn", PAIR, (1, 0, 2))
        d = ("between", z, 1, 0)
        inner = ("hand", z, LA, 1, 0)
        self.check_case(("hand", d, PAIR, 1, 2), 8, ("hand", inner, LB, 0, 0))

    def test_9_offer_to_choose(self):
        x, y = LA, ("turn", TA, (1, 0))
        d = ("offer", x, y, 0, 0)
        for side, one in ((0, x), (1, y)):
            f = ("choose", LA, 1, side, ("counter", "a"))
            self.check_case(("hand", d, f, 1, 1), 9, ("hand", one, LA, 0, 1))

    def test_10_choose_to_offer(self):
        x, y = LA, ("turn", TA, (1, 0))
        f = ("offer", x, y, 0, 0)
        for side, one in ((0, x), (1, y)):
            d = ("choose", LA, 1, side, ("counter", "a"))
            self.check_case(("hand", d, f, 1, 1), 10, ("hand", LA, one, 1, 0))

    def test_the_first_case_that_applies(self):
        self.check_case(("hand", TA, LA, 0, 0), 2, LA)
        self.check_case(("hand", LA, TA, 0, 0), 1, TA)
        f = ("turn", ("between", PAIR, 0, 1), (1, 0))
        self.check_case(("hand", ("turn", PAIR, (2, 1, 0)), f, 0, 0), 3, ("turn", ("hand", PAIR, f, 2, 0), (1, 0, 2)))


class Turned(Checks):
    """An end is followed by itself, not by its form."""

    def test_equal_ends(self):
        two = ("both", LA, LA, 0, 0)
        self.check_case(("hand", two, LA, 0, 0), 2, ("turn", two, (1, 2, 0)))
        self.check_case(("hand", two, LA, 1, 0), 2, ("turn", two, (0, 2, 1)))
        f = ("both", LA, LA, 1, 0)
        self.check_case(("hand", two, f, 1, 0), 5, ("turn", ("both", LA, ("hand", LA, f, 1, 0), 0, 0), (0, 3, 1, 2)))

    def test_a_turn_that_is_right_stays(self):
        """R turned is R if it has this order, also where R is a turn that changes nothing."""
        idle = ("turn", PAIR, (0, 1, 2))
        self.check_case(("hand", LA, idle, 0, 0), 1, idle)
        self.check_case(("hand", LB, idle, 0, 1), 1, ("turn", PAIR, (1, 0, 2)))
        double = ("turn", ("turn", PAIR, (1, 0, 2)), (1, 0, 2))
        self.check_case(("hand", LA, double, 0, 0), 1, double)
        self.check_case(("hand", LB, double, 0, 1), 1, double[1])


class Ready(unittest.TestCase):
    def test_within_one_another(self):
        inner = ("hand", TWICE, ("both", TWICE, LB, 1, 0), 1, 0)
        self.assertEqual(ready_hands(Deed(inner)), (3, 6))
        self.assertEqual(ready_hands(Deed(("hand", TWICE, TWICE, 1, 0))), (3, 6))
        self.assertEqual(ready_hands(Deed(("hand", LA, TWICE, 1, 0))), (4,))
        self.assertEqual(ready_hands(Deed(("both", TWICE, ("hand", LA, TWICE, 1, 0), 0, 0))), (3, 7))

    def test_none(self):
        for steps in (LA, PAIR, ("between", PAIR, 0, 1)):
            deed = Deed(steps)
            self.assertEqual(ready_hands(deed), ())
            told, many = without_hands(deed)
            self.assertEqual((told, many), (deed, 0))

    def test_kinds(self):
        found = without_hands(Deed(TWICE))
        self.assertEqual((type(found), type(found[0]), type(found[1])), (tuple, Deed, int))
        self.assertIsInstance(ready_hands(Deed(TWICE)), tuple)

    def test_plain_deeds(self):
        """Handed on to the plain deed of an end, and reduced, a deed keeps its wirings."""
        for text in ["a & b", "(a * b) & (c + a)", "((a | b) * (a & a)) + c", "a | (b & (c * d))"]:
            one = plain_deed(read_form(text))
            steps = one.steps
            for _ in range(3):
                steps = ("hand", steps, one.steps, 1, 0)
            told, many = without_hands(Deed(steps))
            self.assertTrue(alike(told, one))
            self.assertGreater(many, 2)


def padded(many):
    """Steps with the one end a | a~, within so many turns."""
    steps = ("between", LA, 0, 1)
    for _ in range(many):
        steps = ("turn", steps, (0,))
    return steps


class TooGreat(Checks):
    def test_too_many_steps(self):
        """What is handed on to both steps of an offer is told twice."""
        for pads, error in [(62, None), (63, ("TooMany", {"most": 400}))]:
            f = ("both", LA, ("both", ("both", padded(62), padded(pads), 0, 0), padded(63), 0, 0), 1, 0)
            deed = Deed(("hand", ("offer", LA, LA, 0, 0), f, 0, 0))
            if error:
                self.assertEqual(raised(reduced, deed, deed.size()), error)
                self.assertEqual(raised(without_hands, deed), error)
            else:
                self.assertEqual(self.check(deed, deed.size())[0].size(), 400)

    def test_too_deep(self):
        for pads, error in [(94, None), (95, ("TooDeep", {"most": 100}))]:
            deed = Deed(("hand", PAIR, ("both", LA, padded(pads), 1, 0), 0, 0))
            if error:
                self.assertEqual(raised(reduced, deed, deed.size()), error)
                self.assertEqual(raised(without_hands, deed), error)
            else:
                self.check(deed, deed.size())

    def test_too_deep_around(self):
        """The deed as a whole is looked at, not the hand on alone."""
        for around, error in [(34, None), (35, ("TooDeep", {"most": 100}))]:
            steps = ("hand", PAIR, ("both", LA, padded(60), 1, 0), 0, 0)
            for _ in range(around):
                steps = ("turn", steps, (1, 0, 2))
            deed = Deed(steps)
            if error:
                self.assertEqual(raised(reduced, deed, ready_hands(deed)[0]), error)
                self.assertEqual(raised(without_hands, deed), error)
            else:
                self.check(deed, ready_hands(deed)[0])

    def test_too_many_leaves_on_the_way(self):
        """The hand on within has the first half of the between as an end, which the whole one has not."""
        half = ("between", plain_deed(("both", ("both", A, A), ("both", ("both", A, A), ("both", A, ("both", A, A))))).steps, 0, 1)
        end = Deed(half).ends[0]
        for many, error in [(10, None), (11, ("TooMany", {"most": 40}))]:
            more = A
            for k in range(many - 1):
                more = ("both", more, A)
            y = ("choose", LB, 1, 0, more)
            d = ("both", half, y, 0, 0)
            f = plain_deed(("both", end, B)).steps
            deed = Deed(("hand", d, f, len(Deed(d).ends) - 1, 1))
            self.assertEqual(len(leaf_list(deed.ends)), 1 + many + 15)
            if error:
                self.assertEqual(raised(reduced, deed, deed.size()), error)
                self.assertEqual(raised(without_hands, deed), error)
            else:
                self.check(deed, deed.size())
                self.assertFalse(has_hand(without_hands(deed)[0].steps))

    def test_the_first_deed_on_the_way(self):
        """Of several hand ons the first one is reduced first."""
        f = ("both", LA, ("both", padded(90), padded(90), 0, 0), 1, 0)
        many = ("hand", ("offer", LA, LA, 0, 0), f, 0, 0)
        deep = ("hand", PAIR, ("both", LA, padded(95), 1, 0), 0, 0)
        for one, other, error in [(many, deep, "TooMany"), (deep, many, "TooDeep")]:
            deed = Deed(("both", one, other, 0, 0))
            self.assertEqual(raised(without_hands, deed)[0], error)


class WrongArguments(unittest.TestCase):
    def test_no_deed(self):
        for value in [None, 5, LA, TWICE, wirings_of(Deed(LA)), "link a", ()]:
            for call, rest in [(ready_hands, ()), (reduced, (3,)), (reduced, (None,)), (without_hands, ())]:
                kind, fields = raised(call, value, *rest)
                self.assertEqual(kind, "BadValue")
                self.assertIs(fields["value"], value)

    def test_no_ready_hand_on(self):
        inner = Deed(("hand", LA, TWICE, 1, 0))
        for deed, wrong in [(inner, [1, 2, 3, 5, 0, -1, 6, True, None, "4", 4.0, (4,), [4], 10 ** 20]), (Deed(PAIR), [1, 2, 3])]:
            for at in wrong:
                kind, fields = raised(reduced, deed, at)
                self.assertEqual(kind, "BadValue")
                self.assertIs(fields["value"], at)
        self.assertEqual(reduced(inner, 4).steps, TWICE)

    def test_by_name(self):
        deed = Deed(TWICE)
        self.assertEqual(ready_hands(deed=deed), (3,))
        self.assertEqual(reduced(at=3, deed=deed), Deed(LA))
        self.assertEqual(without_hands(deed=deed), (Deed(LA), 1))
        self.assertEqual(deed.steps, TWICE)


if __name__ == "__main__":
    unittest.main()
