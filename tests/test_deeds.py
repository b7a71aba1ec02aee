"""[8], [9], [10], [64]: steps, right and wrong ones, plain deeds, deeds within deeds."""
import random
import unittest

from alldeeds.deeds import Deed, deed_with_forms, plain_deed, replaced, step_of
from alldeeds.formtexts import ends_text, read_form
from making import (anti, bushy, counter_of, deed_meaning, good, leaf_list, link, nested, raised, random_deeds,
                    random_form)

A, B = good("a"), good("b")
LA, LB = link("a"), link("b")
PAIR = ("both", LA, LB, 0, 0)
THREE = ("both", PAIR, link("c"), 2, 0)


def text_of(steps):
    return ends_text(Deed(steps).ends)


def turns(many, steps=LA):
    """The steps within so many turns."""
    for _ in range(many):
        steps = ("turn", steps, (1, 0))
    return steps


def wrong_step(steps):
    """The number of the first wrong step."""
    kind, fields = raised(Deed, steps)
    return fields["at"] if kind == "WrongStep" else kind


class RightSteps(unittest.TestCase):
    def test_link(self):
        deed = Deed(("link", "a1"))
        self.assertEqual(deed.ends, (good("a1"), anti("a1")))
        self.assertEqual((deed.steps, deed.size()), (("link", "a1"), 1))
        self.assertIsInstance(deed.ends, tuple)

    def test_both(self):
        self.assertEqual(text_of(("both", THREE, PAIR, 1, 2)), "a~, c~, (a * b) * c, a~, b~, b~ * (a * b)")
        self.assertEqual(text_of(("both", LA, LB, 1, 0)), "a, b~, a~ * b")

    def test_between(self):
        self.assertEqual(text_of(("between", THREE, 0, 2)), "b~, (a * b) * c, a~ | c~")
        self.assertEqual(text_of(("between", THREE, 3, 1)), "a~, c~, ((a * b) * c) | b~")
        self.assertEqual(text_of(("between", LA, 1, 0)), "a~ | a")

    def test_offer(self):
        self.assertEqual(text_of(("offer", LA, LA, 0, 0)), "a~, a & a")
        self.assertEqual(text_of(("offer", LA, ("turn", LA, (1, 0)), 0, 1)), "a~, a & a")
        whole = ("between", LA, 0, 1)
        self.assertEqual(text_of(("offer", whole, whole, 0, 0)), "(a | a~) & (a | a~)")
        other = ("between", LB, 0, 1)
        self.assertEqual(text_of(("offer", whole, other, 0, 0)), "(a | a~) & (b | b~)")
        self.assertEqual(text_of(("offer", PAIR, ("turn", PAIR, (0, 2, 1)), 1, 2)), "a~, a * b, b~ & b~")

    def test_choose(self):
        self.assertEqual(text_of(("choose", THREE, 1, 0, read_form("x | y"))), "a~, c~, (a * b) * c, b~ + (x | y)")
        self.assertEqual(text_of(("choose", THREE, 1, 1, read_form("x | y"))), "a~, c~, (a * b) * c, (x | y) + b~")

    def test_hand(self):
        self.assertEqual(text_of(("hand", LA, LA, 0, 1)), "a~, a")
        self.assertEqual(text_of(("hand", LA, LA, 1, 0)), "a, a~")
        self.assertEqual(text_of(("hand", PAIR, LA, 0, 0)), "b~, a * b, a~")
        self.assertEqual(text_of(("hand", THREE, LB, 1, 0)), "a~, c~, (a * b) * c, b~")
        self.assertEqual(text_of(("hand", ("between", PAIR, 0, 1), PAIR, 1, 2)), "a * b, a~, b~")
        self.assertEqual(text_of(("hand", PAIR, ("between", THREE, 0, 1), 2, 2)), "a~, b~, c~, (a * b) * c")

    def test_hand_on_with_ends_on_one_side_alone(self):
        closed = ("offer", ("between", LA, 0, 1), ("between", LA, 0, 1), 0, 0)
        form = Deed(closed).ends[0]
        chosen = ("choose", LB, 0, 0, A)
        taken = plain_deed(form).steps
        self.assertEqual(Deed(("hand", closed, taken, 0, 1)).ends, (form,))
        self.assertEqual(Deed(("hand", taken, closed, 1, 0)).ends, (form,))
        self.assertEqual(text_of(("both", closed, chosen, 0, 1)), "b~, ((a | a~) & (a | a~)) * (b + a)")

    def test_turn(self):
        self.assertEqual(text_of(("turn", THREE, (3, 1, 0, 2))), "(a * b) * c, b~, a~, c~")
        self.assertEqual(text_of(("turn", LA, (0, 1))), "a, a~")
        self.assertEqual(text_of(("turn", ("between", LA, 0, 1), (0,))), "a | a~")

    def test_equality_and_size(self):
        self.assertTrue(Deed(PAIR) == Deed(("both", ("link", "a"), ("link", "b"), 0, 0)))
        self.assertFalse(Deed(PAIR) != Deed(PAIR))
        self.assertFalse(Deed(PAIR) == Deed(("turn", PAIR, (0, 1, 2))))
        for other in (PAIR, None, 5, Deed, "both", list(PAIR)):
            self.assertFalse(Deed(PAIR) == other)
            self.assertTrue(Deed(PAIR) != other)
        self.assertEqual(Deed(steps=THREE).size(), 5)
        self.assertEqual(Deed(turns(70)).size(), 71)

    def test_forty_leaves(self):
        steps = LA
        for _ in range(19):
            steps = ("both", steps, LA, 0, 0)
        self.assertEqual(len(leaf_list(Deed(steps).ends)), 40)
        self.assertEqual(wrong_step(("both", steps, LA, 0, 0)), 41)
        self.assertEqual(wrong_step(("choose", steps, 0, 0, A)), 40)
        self.assertEqual(len(leaf_list(Deed(("choose", LA, 0, 1, bushy(5))).ends)), 34)
        self.assertEqual(wrong_step(("choose", LA, 0, 1, bushy(6))), 2)

    def test_depth_of_forms(self):
        steps = LA
        for _ in range(12):
            steps = ("choose", steps, 1, 0, good("z"))
        self.assertEqual(Deed(steps).ends, (A, nested(anti("a"), 12, "chosen")))
        self.assertEqual(wrong_step(("choose", steps, 1, 0, A)), 14)
        self.assertEqual(wrong_step(("choose", LA, 1, 0, nested(A, 12))), 2)
        self.assertEqual(wrong_step(("choose", LA, 1, 1, nested(A, 13))), 2)
        self.assertEqual(Deed(("choose", LA, 1, 1, nested(A, 11))).ends, (A, ("chosen", nested(A, 11), anti("a"))))
        for word, many in [("both", 25), ("offer", 25)]:
            steps = LA
            for _ in range(12):
                steps = (word, steps, LA, len(Deed(steps).ends) - 1, 1)
            self.assertEqual(Deed(steps).size(), many)
            self.assertEqual(wrong_step((word, steps, LA, len(Deed(steps).ends) - 1, 1)), many + 2)
        self.assertEqual(wrong_step(("between", steps, 0, 1)), 26)


class WrongSteps(unittest.TestCase):
    def test_wrong_links(self):
        for name in ["A", "", "a" * 13, 1, None, ("good", "a"), ["a"], b"a", True]:
            self.assertEqual(wrong_step(("link", name)), 1)
        self.assertEqual(Deed(("link", "a" * 12)).size(), 1)

    def test_no_steps(self):
        for value in [None, True, 0, "link", "", (), [], {}, ("link",), ("link", "a", "b"), ["link", "a"], ("Link", "a"),
                      ("linked", "a"), ("good", "a"), (1, "a"), (None, LA, LB, 0, 0), (["both"], LA, LB, 0, 0),
                      ("both", LA, LB, 0), ("both", LA, LB, 0, 0, 0), ["both", LA, LB, 0, 0], ("between", LA, 0),
                      ("between", LA, 0, 1, 1), ("offer", LA, LA, 0), ("choose", LA, 0, 0), ("choose", LA, 0, 0, A, A),
                      ("hand", LA, LA, 0, 1, 0), ("turn", LA), ("turn", LA, 0, 1), (LA,), ((), LA), object(), 2.5]:
            with self.subTest(value=value):
                self.assertEqual(wrong_step(value), 1)
                self.assertEqual(wrong_step(("both", LA, value, 0, 0)), 2)
                self.assertEqual(wrong_step(("turn", value, (1, 0))), 1)

    def test_wrong_numbers(self):
        for number in [-1, 2, 3, True, False, None, "0", 0.0, (0,), [0], 10 ** 20]:
            with self.subTest(number=number):
                for word in ("both", "offer", "hand"):
                    self.assertEqual(wrong_step((word, LA, LA, number, 0)), 3)
                    self.assertEqual(wrong_step((word, LA, LA, 0, number)), 3)
                self.assertEqual(wrong_step(("between", LA, number, 0)), 2)
                self.assertEqual(wrong_step(("between", LA, 1, number)), 2)
                self.assertEqual(wrong_step(("choose", LA, number, 0, A)), 2)
                self.assertEqual(wrong_step(("choose", LA, 0, number, A)), 2)
                self.assertEqual(wrong_step(("turn", LA, number)), 2)
                self.assertEqual(wrong_step(("turn", LA, (0, number))), 2)
        self.assertEqual(wrong_step(("between", LA, 0, 0)), 2)
        self.assertEqual(wrong_step(("between", LA, 1, 1)), 2)
        self.assertEqual(wrong_step(("between", LA, 0, True)), 2)

    def test_wrong_orders(self):
        for order in [(), (0,), (1,), (0, 0), (1, 1), (0, 1, 2), (0, 2), (-1, 0), [0, 1], [1, 0], (True, False), (False, 1),
                      (0, 1.0), "01", None, {0: 1}, {0, 1}, (0, 1, 1), ((0,), (1,))]:
            with self.subTest(order=order):
                self.assertEqual(wrong_step(("turn", LA, order)), 2)

    def test_wrong_forms(self):
        for form in [None, "a", ("good", "A"), ["good", "a"], ("both", A), nested(A, 12), ("good", "a", "b"), ()]:
            self.assertEqual(wrong_step(("choose", LA, 0, 0, form)), 2)
            self.assertEqual(wrong_step(("choose", LA, 0, 1, form)), 2)

    def test_offers_of_unlike_rests(self):
        self.assertEqual(wrong_step(("offer", LA, LA, 0, 1)), 3)
        self.assertEqual(wrong_step(("offer", LA, LB, 0, 0)), 3)
        self.assertEqual(wrong_step(("offer", PAIR, ("turn", PAIR, (1, 0, 2)), 2, 2)), 8)
        self.assertEqual(wrong_step(("offer", PAIR, LA, 0, 0)), 5)
        self.assertEqual(wrong_step(("offer", LA, ("between", LA, 0, 1), 0, 0)), 4)

    def test_hands_of_no_counters(self):
        self.assertEqual(wrong_step(("hand", LA, LA, 0, 0)), 3)
        self.assertEqual(wrong_step(("hand", LA, LA, 1, 1)), 3)
        self.assertEqual(wrong_step(("hand", LA, LB, 0, 1)), 3)
        self.assertEqual(wrong_step(("hand", PAIR, PAIR, 2, 2)), 7)

    def test_hands_of_single_ends(self):
        whole = ("between", LA, 0, 1)
        self.assertEqual(text_of(("choose", whole, 0, 0, B)), "(a | a~) + b")
        self.assertEqual(wrong_step(("hand", whole, whole, 0, 0)), 5)

    def test_the_first_wrong_step_counts(self):
        bad = ("link", "A")
        self.assertEqual(wrong_step(("both", bad, bad, 9, 9)), 1)
        self.assertEqual(wrong_step(("both", LA, bad, 9, 9)), 2)
        self.assertEqual(wrong_step(("both", LA, LB, 9, 9)), 3)
        self.assertEqual(wrong_step(("both", PAIR, ("between", LA, 0, 0), 9, 9)), 5)
        self.assertEqual(wrong_step(("both", ("between", LA, 0, 0), ("link", 5), 9, 9)), 2)
        self.assertEqual(wrong_step(("turn", ("choose", ("hand", PAIR, LB, 1, 0), 5, 0, A), None)), 6)
        self.assertEqual(wrong_step(("turn", ("choose", ("hand", PAIR, ("link",), 1, 0), 5, 0, A), None)), 4)
        self.assertEqual(wrong_step(("offer", None, ["link", "a"], 0, 0)), 1)

    def test_each_place(self):
        """A right deed with one wrong link at each place."""
        def with_wrong(steps, at):
            """The steps with the link number at made wrong, counted by a list, and its step number."""
            if steps[0] == "link":
                at[0] -= 1
                return ("link", "A") if at[0] == 0 else steps
            return tuple(with_wrong(part, at) if isinstance(part, tuple) and part and part[0] in WORDS else part
                         for part in steps)

        WORDS = ("link", "both", "between", "offer", "choose", "hand", "turn")
        for deed in random_deeds(11, 40):
            order = []

            def number(steps):
                for part in steps[1:3]:
                    if isinstance(part, tuple) and part and part[0] in WORDS:
                        number(part)
                order.append(steps)

            number(deed.steps)
            self.assertEqual(len(order), deed.size())
            places = [k + 1 for k, step in enumerate(order) if step[0] == "link"]
            for many, place in enumerate(places):
                self.assertEqual(wrong_step(with_wrong(deed.steps, [many + 1])), place)


class Bounds(unittest.TestCase):
    def sized(self, many):
        """A deed with so many steps, at most 38 deep: turns within both."""
        rows = [LA] * 20
        left = many - 39
        rows = [turns(left // 20 + (1 if k < left % 20 else 0)) for k in range(20)]
        while len(rows) > 1:
            rows = [("both", rows[k], rows[k + 1], 0, 0) if k + 1 < len(rows) else rows[k] for k in range(0, len(rows), 2)]
        return rows[0]

    def test_four_hundred_steps(self):
        self.assertEqual(Deed(self.sized(399)).size(), 399)
        self.assertEqual(Deed(self.sized(400)).size(), 400)
        self.assertEqual(raised(Deed, self.sized(401)), ("TooMany", {"most": 400}))
        self.assertEqual(raised(Deed, self.sized(1500)), ("TooMany", {"most": 400}))

    def test_depth_of_one_hundred(self):
        self.assertEqual(Deed(turns(99)).size(), 100)
        self.assertEqual(raised(Deed, turns(100)), ("TooDeep", {"most": 100}))
        self.assertEqual(raised(Deed, turns(399)), ("TooDeep", {"most": 100}))
        self.assertEqual(raised(Deed, turns(400)), ("TooMany", {"most": 400}))
        self.assertEqual(Deed(("both", LA, turns(98), 0, 0)).size(), 101)
        self.assertEqual(raised(Deed, ("both", LA, turns(99), 0, 0)), ("TooDeep", {"most": 100}))
        self.assertEqual(raised(Deed, ("both", turns(99), LA, 0, 0)), ("TooDeep", {"most": 100}))

    def test_thousands_of_steps(self):
        for many in (1000, 30000):
            self.assertEqual(raised(Deed, turns(many)), ("TooMany", {"most": 400}))
            self.assertEqual(raised(Deed, turns(many, None)), ("TooMany", {"most": 400}))

    def test_one_tuple_many_times(self):
        steps = ("offer", LA, LA, 0, 0)
        for many in range(2, 6):
            steps = ("offer", steps, steps, 1, 1)
            self.assertEqual(Deed(steps).size(), 2 ** (many + 1) - 1)
        self.assertEqual(wrong_step(("offer", steps, steps, 1, 1)), 127)
        shared = LA
        for _ in range(8):
            shared = ("both", shared, shared, 0, 0)
        self.assertEqual(raised(Deed, shared), ("TooMany", {"most": 400}))
        for many in (90, 300, 5000):
            steps = LA
            for _ in range(many):
                steps = ("both", steps, steps, 0, 0)
            self.assertEqual(raised(Deed, steps), ("TooMany", {"most": 400}))
            steps = None
            for _ in range(many):
                steps = ("hand", steps, steps, "no", None)
            self.assertEqual(raised(Deed, steps), ("TooMany", {"most": 400}))

    def test_wrong_steps_are_counted(self):
        """A wrong step with the length and the word has the steps within, whatever its other parts are."""
        steps = ("link", "A")
        for _ in range(99):
            steps = ("turn", steps, "no")
        self.assertEqual(wrong_step(steps), 1)
        self.assertEqual(raised(Deed, ("between", steps, 0, None)), ("TooDeep", {"most": 100}))
        steps = LA
        for _ in range(99):
            steps = ("choose", steps, None, None, None)
        self.assertEqual(wrong_step(steps), 2)
        self.assertEqual(raised(Deed, ("choose", steps, 0, 0, A)), ("TooDeep", {"most": 100}))
        half = turns(98, None)
        self.assertEqual(wrong_step(("both", half, half, 9, 9)), 1)
        quarter = ("both", half, half, None, None)
        self.assertEqual(raised(Deed, ("both", quarter, quarter, 9, 9)), ("TooDeep", {"most": 100}))
        many = ("both", ("both", quarter, LA, 0, 0), ("both", quarter, LA, 0, 0), 0, 0)
        self.assertEqual(raised(Deed, many), ("TooMany", {"most": 400}))

    def test_no_steps_within_others(self):
        """A tuple of another length or word has no steps within, however deep it is."""
        deep = turns(3000)
        for value in [("both", deep, deep, 0), ["both", deep, deep, 0, 0], ("bothe", deep, deep, 0, 0), (deep, deep),
                      ("link", deep)]:
            self.assertEqual(wrong_step(("turn", value, (1, 0))), 1)
        self.assertEqual(wrong_step(("choose", LA, 0, 0, deep)), 2)
        self.assertEqual(wrong_step(("choose", LA, deep, 0, A)), 2)
        self.assertEqual(wrong_step(("turn", LA, deep)), 2)


class StepOf(unittest.TestCase):
    def test_each_number(self):
        deed = Deed(("turn", ("both", PAIR, ("between", link("c"), 0, 1), 2, 0), (2, 1, 0)))
        told = [LA, LB, PAIR, link("c"), ("between", link("c"), 0, 1), deed.steps[1], deed.steps]
        self.assertEqual([step_of(deed, at).steps for at in range(1, 8)], told)
        self.assertEqual(step_of(deed=deed, at=7), deed)
        for at in [0, 8, -1, True, False, None, "1", 1.0, (1,), 10 ** 30]:
            kind, fields = raised(step_of, deed, at)
            self.assertEqual(kind, "BadValue")
            self.assertIs(fields["value"], at)

    def test_no_deed(self):
        for deed in [None, PAIR, 5, "link a", [LA]]:
            for call, rest in [(step_of, (0,)), (replaced, (0, None)), (deed_with_forms, (None,))]:
                kind, fields = raised(call, deed, *rest)
                self.assertEqual(kind, "BadValue")
                self.assertIs(fields["value"], deed)


class Replaced(unittest.TestCase):
    def test_each_step(self):
        for deed in random_deeds(12, 50):
            before = deed.steps
            for at in range(1, deed.size() + 1):
                step = step_of(deed, at)
                order = tuple(range(len(step.ends)))
                other = Deed(("turn", step.steps, order))
                told = replaced(deed, at, other)
                self.assertEqual(told.size(), deed.size() + 1)
                self.assertEqual(told.ends, deed.ends)
                self.assertEqual(step_of(told, at + 1), other)
                self.assertEqual(replaced(told, at + 1, step), deed)
                self.assertEqual(replaced(deed, at, step), deed)
            self.assertEqual(deed.steps, before)

    def test_the_whole(self):
        crossed = Deed(("turn", ("both", LA, LA, 0, 0), (1, 0, 2)))
        self.assertEqual(replaced(Deed(("both", LA, LA, 0, 0)), 3, crossed), crossed)

    def test_one_of_equal_steps_alone(self):
        deed = Deed(("both", LA, LA, 0, 0))
        other = Deed(turns(2))
        self.assertEqual(replaced(deed, 1, other).steps, ("both", turns(2), LA, 0, 0))
        self.assertEqual(replaced(deed=deed, at=2, other=other).steps, ("both", LA, turns(2), 0, 0))

    def test_errors(self):
        deed = Deed(PAIR)
        turned = Deed(("turn", LA, (1, 0)))
        self.assertEqual(raised(replaced, deed, 1, turned), ("Unlike", {}))
        self.assertEqual(raised(replaced, deed, 1, Deed(LB)), ("Unlike", {}))
        self.assertEqual(raised(replaced, deed, 3, Deed(LB)), ("Unlike", {}))
        for at in [0, 4, True, None]:
            self.assertIs(raised(replaced, deed, at, None)[1]["value"], at)
            self.assertIs(raised(replaced, deed, at, turned)[1]["value"], at)
        for other in [None, LA, "link a"]:
            self.assertEqual(raised(replaced, deed, 1, other), ("BadValue", {"value": other}))

    def test_bounds(self):
        three = Deed(("hand", LA, LA, 1, 0))
        self.assertEqual(replaced(Deed(turns(98)), 1, three).size(), 101)
        self.assertEqual(raised(replaced, Deed(turns(99)), 1, three), ("TooDeep", {"most": 100}))
        chain = LA
        for _ in range(97):
            chain = ("hand", chain, LA, 1, 0)
        self.assertEqual(Deed(chain).size(), 195)
        twice = Deed(("hand", chain, chain, 1, 0))
        self.assertEqual(twice.size(), 391)
        nine = Deed(("hand", ("hand", three.steps, LA, 1, 0), ("hand", LA, LA, 1, 0), 1, 0))
        self.assertEqual(nine.size(), 9)
        ten = Deed(("turn", nine.steps, (0, 1)))
        eleven = Deed(("turn", ten.steps, (0, 1)))
        place = 2 * 97 + 1 + 194
        self.assertEqual(step_of(twice, place), Deed(LA))
        self.assertEqual(replaced(twice, place, nine).size(), 399)
        self.assertEqual(replaced(twice, place, ten).size(), 400)
        self.assertEqual(raised(replaced, twice, place, eleven), ("TooMany", {"most": 400}))
        self.assertEqual(raised(replaced, twice, 1, eleven), ("TooMany", {"most": 400}))
        self.assertEqual(raised(replaced, twice, 1, nine), ("TooDeep", {"most": 100}))


def plain_steps(form):
    """The steps of [10], as it stands in the document."""
    if form[0] == "good":
        return ("link", form[1])
    if form[0] == "counter":
        return ("turn", ("link", form[1]), (1, 0))
    p, q = plain_steps(form[1]), plain_steps(form[2])
    return {
        "both": ("between", ("both", p, q, 0, 0), 0, 1),
        "between": ("turn", ("between", ("both", p, q, 1, 1), 0, 1), (1, 0)),
        "offered": ("turn", ("offer", ("choose", p, 1, 0, counter_of(form[2])),
                             ("choose", q, 1, 1, counter_of(form[1])), 0, 0), (1, 0)),
        "chosen": ("offer", ("choose", p, 0, 0, form[2]), ("choose", q, 0, 1, form[1]), 0, 0),
    }[form[0]]


class PlainDeeds(unittest.TestCase):
    def test_each_word(self):
        for text in ["a", "a~", "a * b", "a | b~", "a & b", "a~ + b"]:
            form = read_form(text)
            deed = plain_deed(form)
            self.assertEqual(deed.steps, plain_steps(form))
            self.assertEqual(deed.ends, (form, counter_of(form)))

    def test_random_forms(self):
        chance = random.Random(13)
        for _ in range(150):
            form = random_form(chance, 4)
            deed = plain_deed(form=form)
            self.assertEqual(deed.steps, plain_steps(form))
            self.assertEqual(deed.ends, (form, counter_of(form)))
            if len(leaf_list([form])) < 6:
                for entry in deed_meaning(deed):
                    self.assertEqual(entry[0], entry[1])

    def test_twenty_leaves_and_more(self):
        twenty = ("both", bushy(4), bushy(2))
        for word in ("both", "between", "offered", "chosen"):
            self.assertEqual(len(plain_deed((word, bushy(4, word), bushy(2, word))).ends), 2)
            deep = nested(A, 12, word)
            self.assertEqual(plain_deed(deep).ends, (deep, counter_of(deep)))
        self.assertEqual(raised(plain_deed, ("both", twenty, A)), ("TooMany", {"most": 40}))
        self.assertEqual(raised(plain_deed, bushy(12)), ("TooMany", {"most": 40}))
        for form in [None, "a", ["good", "a"], nested(A, 13), ("both", A), [A]]:
            kind, fields = raised(plain_deed, form)
            self.assertEqual(kind, "BadValue")
            self.assertIs(fields["value"], form)


def steps_with(steps, forms):
    """The steps of deed_with_forms, as it stands in the document."""
    def form_with(form):
        if len(form) == 2:
            if form[1] not in forms:
                return form
            return forms[form[1]] if form[0] == "good" else counter_of(forms[form[1]])
        return (form[0], form_with(form[1]), form_with(form[2]))

    if steps[0] == "link":
        return plain_steps(forms[steps[1]]) if steps[1] in forms else steps
    if steps[0] in ("both", "offer", "hand"):
        return (steps[0], steps_with(steps[1], forms), steps_with(steps[2], forms)) + steps[3:]
    if steps[0] == "choose":
        return ("choose", steps_with(steps[1], forms)) + steps[2:4] + (form_with(steps[4]),)
    return (steps[0], steps_with(steps[1], forms)) + steps[2:]


class WithForms(unittest.TestCase):
    def test_random_deeds(self):
        chance = random.Random(14)
        for deed in random_deeds(15, 80, names="abc", most_steps=14, most_leaves=6):
            forms = {name: random_form(chance, 2, "xyab") for name in ("a", "c", "q")}
            told = deed_with_forms(deed, forms)
            self.assertEqual(told.steps, steps_with(deed.steps, forms))

    def test_choose_forms_and_counters(self):
        deed = Deed(("choose", ("turn", LA, (1, 0)), 1, 1, ("both", anti("a"), B)))
        told = deed_with_forms(deed, {"a": read_form("c & d")})
        self.assertEqual(ends_text(told.ends), "c~ + d~, ((c~ + d~) * b) + (c & d)")
        self.assertEqual(deed_with_forms(deed=deed, forms={"a": anti("a")}).ends[0], A)
        self.assertEqual(deed_with_forms(Deed(LA), {"a": A}), Deed(LA))
        self.assertEqual(deed_with_forms(Deed(LA), {"a": anti("b")}).steps, ("turn", LB, (1, 0)))

    def test_all_at_once(self):
        self.assertEqual(deed_with_forms(Deed(PAIR), {"a": B, "b": A}).steps, ("both", LB, LA, 0, 0))

    def test_names_that_do_not_occur(self):
        forms = {"q": bushy(12), "r": nested(A, 12)}
        self.assertEqual(deed_with_forms(Deed(PAIR), forms), Deed(PAIR))
        self.assertEqual(deed_with_forms(Deed(PAIR), {}), Deed(PAIR))

    def test_too_deep(self):
        self.assertEqual(ends_text(deed_with_forms(Deed(PAIR), {"a": nested(A, 11)}).ends[:1]),
                         ends_text([counter_of(nested(A, 11))]))
        self.assertEqual(raised(deed_with_forms, Deed(PAIR), {"a": nested(A, 12)}), ("TooDeep", {"most": 12}))
        self.assertEqual(raised(deed_with_forms, Deed(("choose", LA, 0, 0, ("both", B, B))), {"b": nested(A, 11)}),
                         ("TooDeep", {"most": 12}))
        hidden = Deed(("hand", PAIR, ("between", PAIR, 0, 1), 2, 1))
        self.assertEqual(ends_text(hidden.ends), "a~, b~, a * b")
        within = Deed(("hand", ("choose", LA, 0, 0, ("both", B, B)), plain_deed(read_form("a + (b * b)")).steps, 1, 1))
        self.assertEqual(raised(deed_with_forms, within, {"b": nested(A, 11)}), ("TooDeep", {"most": 12}))

    def test_a_step_that_is_too_deep_within(self):
        """The form is too deep in a step alone that is handed on."""
        both = Deed(("hand", ("both", LA, LB, 0, 0), ("turn", ("between", PAIR, 0, 1), (1, 0)), 2, 0))
        self.assertEqual(raised(deed_with_forms, both, {"b": nested(A, 12)}), ("TooDeep", {"most": 12}))
        deed = Deed(("hand", LB, ("hand", LB, LB, 1, 0), 1, 0))
        self.assertEqual(deed_with_forms(deed, {"b": nested(A, 12)}).ends[0], nested(A, 12))

    def test_too_many_leaves(self):
        twenty = ("both", bushy(4), bushy(2))
        self.assertEqual(len(leaf_list(deed_with_forms(Deed(LA), {"a": twenty}).ends)), 40)
        self.assertEqual(raised(deed_with_forms, Deed(LA), {"a": ("both", twenty, A)}), ("TooMany", {"most": 40}))
        self.assertEqual(raised(deed_with_forms, Deed(PAIR), {"a": twenty}), ("TooMany", {"most": 40}))
        self.assertEqual(raised(deed_with_forms, Deed(LA), {"a": bushy(12)}), ("TooMany", {"most": 40}))
        row = LA
        for _ in range(19):
            row = ("both", row, LA, 0, 0)
        self.assertEqual(deed_with_forms(Deed(row), {"b": bushy(12)}), Deed(row))
        self.assertEqual(raised(deed_with_forms, Deed(row), {"a": bushy(1)}), ("TooMany", {"most": 40}))
        chosen = Deed(("choose", LA, 0, 0, B))
        self.assertEqual(len(deed_with_forms(chosen, {"b": bushy(5)}).ends), 2)
        self.assertEqual(raised(deed_with_forms, chosen, {"b": bushy(6)}), ("TooMany", {"most": 40}))
        wide = Deed(("hand", ("both", LA, LB, 0, 0), LA, 0, 0))
        self.assertEqual(raised(deed_with_forms, wide, {"b": twenty}), ("TooMany", {"most": 40}))

    def test_too_many_steps(self):
        chain = LA
        for _ in range(40):
            chain = ("hand", chain, LA, 1, 0)
        deed = Deed(chain)
        form = bushy(3)
        steps = plain_deed(form).size()
        self.assertEqual(steps, 22)
        self.assertEqual(raised(deed_with_forms, deed, {"a": form}), ("TooMany", {"most": 400}))
        self.assertEqual(deed_with_forms(deed, {"a": bushy(1)}).size(), 41 * 4 + 40)
        self.assertEqual(deed_with_forms(deed, {"a": bushy(1, "offered")}).size(), 41 * 6 + 40)
        self.assertEqual(raised(deed_with_forms, deed, {"a": bushy(2)}), ("TooMany", {"most": 400}))

    def test_too_deep_deeds(self):
        self.assertEqual(deed_with_forms(Deed(turns(97)), {"a": bushy(1)}).size(), 101)
        self.assertEqual(raised(deed_with_forms, Deed(turns(98)), {"a": bushy(1)}), ("TooDeep", {"most": 100}))

    def test_order_of_errors(self):
        twenty = ("both", bushy(4), bushy(2))
        one = ("both", LA, ("both", LB, link("c"), 0, 0), 0, 2)
        self.assertEqual(raised(deed_with_forms, Deed(one), {"a": ("both", twenty, A), "b": nested(A, 12)}),
                         ("TooDeep", {"most": 12}))
        self.assertEqual(raised(deed_with_forms, Deed(turns(99)), {"a": ("both", twenty, A)}), ("TooMany", {"most": 40}))
        chain = LA
        for _ in range(97):
            chain = ("hand", chain, LA, 1, 0)
        self.assertEqual(raised(deed_with_forms, Deed(chain), {"a": ("both", twenty, A)}), ("TooMany", {"most": 40}))
        self.assertEqual(raised(deed_with_forms, Deed(chain), {"a": bushy(4)}), ("TooMany", {"most": 400}))
        kind, fields = raised(deed_with_forms, Deed(chain), {"a": bushy(2), "b": None})
        self.assertEqual(kind, "BadValue")

    def test_wrong_dicts(self):
        deed = Deed(PAIR)
        for forms in [None, [], ("a", A), {"A": A}, {"a": None}, {1: A}, {"a": nested(A, 13)}, {"a": ["good", "a"]}]:
            kind, fields = raised(deed_with_forms, deed, forms)
            self.assertEqual(kind, "BadValue")
            self.assertIs(fields["value"], forms)


class Meaning(unittest.TestCase):
    def test_random_deeds_have_the_ends_of_their_steps(self):
        """Each entry that the steps make is an entry of the ends."""
        def fits(form, entry):
            if len(form) == 2:
                return entry in (0, 1)
            if form[0] in ("offered", "chosen"):
                return fits(form[1 + entry[0]], entry[1])
            return fits(form[1], entry[0]) and fits(form[2], entry[1])

        for deed in random_deeds(16, 80):
            entries = deed_meaning(deed)
            self.assertTrue(entries)
            for entry in entries:
                self.assertEqual(len(entry), len(deed.ends))
                self.assertTrue(all(fits(end, part) for end, part in zip(deed.ends, entry)))


if __name__ == "__main__":
    unittest.main()
