"""[38], [39], [83]: plain deeds, and deeds that undo each other."""
import random
import unittest

from alldeeds.back import deed_of
from alldeeds.deeds import Deed, plain_deed
from alldeeds.formtexts import read_form
from alldeeds.likeness import alike
from alldeeds.search import all_wirings
from alldeeds.undoing import is_plain_deed, undo_each_other
from alldeeds.wired import wirings_of
from making import bushy, counter_of, deed_meaning, good, leaf_list, link, passed_on, raised, random_deeds, random_form

A = good("a")
LA = link("a")
TWO = ("between", ("both", LA, LA, 0, 0), 0, 1)
CROSSED = ("between", ("both", LA, LA, 0, 0), 1, 0)


def joined(second, first):
    """There and then back."""
    return Deed(("hand", second.steps, first.steps, 1, 0))


def slow_undo(there, back):
    """By the things over two things that are there behind both ways."""
    form = back.ends[0]
    other = there.ends[0]
    return (deed_meaning(joined(back, there)) == deed_meaning(plain_deed(form))
            and deed_meaning(joined(there, back)) == deed_meaning(plain_deed(other)))


def deeds_between(one, other):
    """Deeds of all sorts from the one form to the other one."""
    return [deed_of(wirings) for wirings in all_wirings([other, counter_of(one)])]


class IsPlainDeed(unittest.TestCase):
    def test_told(self):
        self.assertIs(is_plain_deed(Deed(LA)), True)
        self.assertIs(is_plain_deed(Deed(("turn", LA, (1, 0)))), True)
        self.assertIs(is_plain_deed(Deed(TWO)), True)
        self.assertIs(is_plain_deed(Deed(CROSSED)), False)
        self.assertIs(is_plain_deed(Deed(("hand", TWO, TWO, 1, 0))), True)
        self.assertIs(is_plain_deed(Deed(("hand", CROSSED, CROSSED, 1, 0))), True)
        self.assertIs(is_plain_deed(Deed(("hand", CROSSED, TWO, 1, 0))), False)

    def test_ends_that_are_not_those_of_a_plain_deed(self):
        for steps in [("both", LA, LA, 0, 0), ("between", LA, 0, 1), ("both", LA, LA, 0, 1),
                      ("choose", LA, 0, 0, A), ("turn", ("choose", LA, 1, 0, A), (1, 0)), ("offer", LA, LA, 0, 0)]:
            self.assertIs(is_plain_deed(Deed(steps)), False)

    def test_plain_deeds_of_drawn_forms(self):
        chance = random.Random(411)
        for _ in range(100):
            form = random_form(chance, 3)
            if len(leaf_list([form])) <= 12:
                self.assertIs(is_plain_deed(plain_deed(form)), True)
                self.assertIs(is_plain_deed(Deed(("hand", plain_deed(form).steps, plain_deed(form).steps, 1, 0))), True)

    def test_handed_on_to_a_plain_deed(self):
        """[38]: each deed keeps its wirings, this end now the last one."""
        for deed in random_deeds(412, 80):
            for number, end in enumerate(deed.ends):
                if len(leaf_list(deed.ends)) + len(leaf_list([end])) <= 20:
                    hand = Deed(("hand", deed.steps, plain_deed(end).steps, number, 1))
                    order = tuple(k for k in range(len(deed.ends)) if k != number) + (number,)
                    self.assertTrue(alike(hand, Deed(("turn", deed.steps, order))))

    def test_drawn(self):
        for deed in random_deeds(413, 300):
            form = deed.ends[0]
            right = deed.ends == (form, counter_of(form))
            self.assertIs(is_plain_deed(deed), right and deed_meaning(deed) == deed_meaning(plain_deed(form)))

    def test_all_deeds_of_small_forms(self):
        for text in ["a & a", "a * a", "(a & a) & a", "a + (a & a)", "(a * a) & a"]:
            form = read_form(text)
            plain = [deed for deed in deeds_between(form, form) if is_plain_deed(deed)]
            self.assertEqual(len(plain), 1)
            self.assertTrue(alike(plain[0], plain_deed(form)))

    def test_too_many_wirings(self):
        """What wirings_of raises, but only where the ends are those of a plain deed."""
        self.assertIs(is_plain_deed(passed_on(10)), True)
        deed = passed_on(11)
        self.assertEqual(raised(wirings_of, deed), ("TooMany", {"most": 2000}))
        self.assertEqual(raised(is_plain_deed, deed), ("TooMany", {"most": 2000}))
        self.assertIs(is_plain_deed(Deed(("both", deed.steps, LA, 0, 0))), False)
        self.assertIs(is_plain_deed(Deed(("between", deed.steps, 0, 1))), False)

    def test_bad_value(self):
        for wrong in [None, LA, wirings_of(Deed(LA)), 5]:
            self.assertEqual(raised(is_plain_deed, wrong), ("BadValue", {"value": wrong}))


class UndoEachOther(unittest.TestCase):
    def test_told(self):
        crossed, two = Deed(CROSSED), Deed(TWO)
        for there, back, right in [(two, two, True), (crossed, crossed, True), (crossed, two, False), (two, crossed, False)]:
            self.assertIs(undo_each_other(there, back), right)

    def test_both_ways_round(self):
        """From a to a & a and back is plain, but not the other way round."""
        there = Deed(("turn", ("offer", LA, LA, 0, 0), (1, 0)))
        for side in (0, 1):
            back = Deed(("choose", LA, 1, side, ("counter", "a")))
            self.assertIs(is_plain_deed(joined(back, there)), True)
            self.assertIs(is_plain_deed(joined(there, back)), False)
            self.assertIs(undo_each_other(there, back), False)
            self.assertIs(undo_each_other(back, there), False)

    def test_all_deeds_of_small_forms(self):
        answers = set()
        for one, other in [("a & a", "a & a"), ("a * a", "a * a"), ("(a & a) & a", "a & (a & a)"), ("a + (a * a)", "(a * a) + a"),
                           ("a | (a & a)", "(a | a) & (a | a)"), ("a * b", "b * a"), ("a * (a + b)", "(a * a) + (a * b)"), ("a", "a & a")]:
            here, there = read_form(one), read_form(other)
            for first in deeds_between(here, there):
                for second in deeds_between(there, here):
                    right = slow_undo(first, second)
                    answers.add((one, right))
                    self.assertIs(undo_each_other(first, second), right)
        self.assertEqual(len(answers), 14)

    def test_ends_that_do_not_fit(self):
        pair = Deed(("both", LA, link("b"), 0, 0))
        alone = Deed(("between", LA, 0, 1))
        two, turned = Deed(TWO), Deed(("turn", TWO, (1, 0)))
        for there in [pair, alone, None, LA]:
            for back in [two, None, pair]:
                self.assertEqual(raised(undo_each_other, there, back), ("BadValue", {"value": there}))
        for back in [pair, alone, None, LA, Deed(LA), Deed(link("b")), turned]:
            self.assertEqual(raised(undo_each_other, two, back), ("BadValue", {"value": back}))
        there = Deed(("turn", ("offer", LA, LA, 0, 0), (1, 0)))
        self.assertEqual(raised(undo_each_other, there, there), ("BadValue", {"value": there}))
        self.assertEqual(raised(undo_each_other, Deed(("both", LA, LA, 0, 1)), Deed(LA)),
                         ("BadValue", {"value": Deed(("both", LA, LA, 0, 1))}))

    def test_two_ends_that_are_not_counters(self):
        """Any deed with two ends is one from some form to another one."""
        there = Deed(("offer", LA, LA, 0, 0))
        back = Deed(("turn", ("choose", LA, 0, 1, A), (1, 0)))
        self.assertEqual((there.ends[0], back.ends[0]), (("counter", "a"), ("chosen", A, A)))
        self.assertEqual(raised(undo_each_other, there, back)[0], "BadValue")
        third = Deed(("choose", LA, 1, 0, ("counter", "a")))
        self.assertEqual(there.ends, (("counter", "a"), ("offered", A, A)))
        self.assertEqual(third.ends, (A, ("chosen", ("counter", "a"), ("counter", "a"))))
        turned = Deed(("turn", third.steps, (1, 0)))
        self.assertIs(undo_each_other(there, turned), False)

    def test_20_and_21_leaves(self):
        wide = bushy(4)
        most = ("both", wide, bushy(2))
        self.assertIs(undo_each_other(plain_deed(most), plain_deed(most)), True)
        chosen = bushy(4, "chosen")
        few, many = ("chosen", chosen, bushy(2, "chosen")), ("chosen", chosen, ("chosen", bushy(2, "chosen"), A))
        self.assertEqual([len(leaf_list([form])) for form in (chosen, few, many)], [16, 20, 21])
        for form in (chosen, few):
            there, back = collapsed(chosen, form), collapsed(form, chosen)
            self.assertEqual(there.ends, (form, counter_of(chosen)))
            self.assertIs(undo_each_other(there, back), False)
        there, back = collapsed(chosen, many), collapsed(many, chosen)
        for pair in [(there, back), (back, there)]:
            self.assertEqual(raised(undo_each_other, *pair), ("TooMany", {"most": 40}))
        self.assertEqual(raised(undo_each_other, there, there), ("BadValue", {"value": there}))

    def test_too_many_wirings(self):
        form = passed_on(11).ends[0]
        for pair in [(passed_on(11), plain_deed(form)), (plain_deed(form), passed_on(11))]:
            self.assertEqual(raised(undo_each_other, *pair), ("TooMany", {"most": 2000}))
        self.assertIs(undo_each_other(passed_on(10), plain_deed(passed_on(10).ends[0])), True)


def collapsed(form, other):
    """A deed from the one form to the other one, both chosen goods a: always the leftmost one of these is chosen."""
    if form[0] == "chosen":
        steps = [collapsed(half, other).steps for half in form[1:]]
        return Deed(("offer", steps[0], steps[1], 1, 1))
    rights = []
    while other[0] == "chosen":
        rights.append(other[2])
        other = other[1]
    steps = ("turn", LA, (1, 0))
    for right in rights[::-1]:
        steps = ("choose", steps, 1, 0, right)
    return Deed(("turn", steps, (1, 0)))


if __name__ == "__main__":
    unittest.main()
