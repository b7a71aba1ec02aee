"""[42], [84]: ways between forms that are the same up to deeds."""
import math
import random
import time
import unittest

from alldeeds.back import deed_of
from alldeeds.deeds import Deed, plain_deed
from alldeeds.errors import DeedError
from alldeeds.ends import choices, leaves, met_leaves
from alldeeds.flatforms import choice_count, flat_leaves, flat_of
from alldeeds.formtexts import read_form
from alldeeds.likeness import alike
from alldeeds.sameforms import both_ways, changed_end, way_count, ways
from alldeeds.search import all_wirings
from alldeeds.undoing import is_plain_deed, undo_each_other
from alldeeds.wired import wirings_of
from making import FORKS, bushy, counter_of, good, has_hand, leaf_list, link, nested, passed_on, raised, random_deeds, random_form
from test_flatforms import moved

A, B = good("a"), good("b")
LA = link("a")


def slow_count(flat):
    """The product of the numbers of orders of equal parts, over the flat form and all within."""
    if isinstance(flat[1], str):
        return 1
    total = 1
    for part in set(flat[1]):
        total *= math.factorial(flat[1].count(part))
    for part in flat[1]:
        total *= slow_count(part)
    return total


def slow_ways(one, other):
    """All wirings of deeds from the one form to the other one that some deed undoes."""
    there = [deed_of(told) for told in all_wirings([other, counter_of(one)])]
    back = [deed_of(told) for told in all_wirings([one, counter_of(other)])]
    found = []
    for first in there:
        if any(undo_each_other(first, second) for second in back):
            found.append(wirings_of(first).wirings)
    return sorted(found)


def pairs_of_forms(seed, many, most_leaves=40, depth=3):
    """Drawn pairs of forms that are the same."""
    chance = random.Random(seed)
    found = []
    while len(found) < many:
        one = random_form(chance, depth, chance.choice(["a", "ab"]))
        if flat_leaves(one) > 300:
            continue
        other = moved(chance, one, chance.randrange(8))
        if len(leaf_list([one, other])) <= most_leaves:
            found.append((one, other))
    return found


def grouped(word, many, letter):
    """A form of the word with so many goods, all unlike."""
    forms = [good(f"{letter}{k}") for k in range(many)]
    while len(forms) > 1:
        forms = [(word, forms[k], forms[k + 1]) if k + 1 < len(forms) else forms[k] for k in range(0, len(forms), 2)]
    return forms[0]


def chosen_pair(one, other):
    """The both of two chosen forms with so many goods."""
    return ("both", grouped("chosen", one, "b"), grouped("chosen", other, "c"))


class BothWays(unittest.TestCase):
    def check(self, one, other):
        there, back = both_ways(one, other)
        self.assertEqual((there.ends, back.ends), ((other, counter_of(one)), (one, counter_of(other))))
        self.assertFalse(has_hand(there.steps) or has_hand(back.steps))
        if max(len(leaf_list([one])), len(leaf_list([other]))) <= 20:
            self.assertIs(undo_each_other(there, back), True)
        return there, back

    def test_drawn(self):
        told = 0
        for one, other in pairs_of_forms(421, 400):
            if choice_count(one) <= 64:
                told += 1
                pair = self.check(one, other)
                self.assertIsInstance(pair, tuple)
                self.assertIn(wirings_of(pair[0]), ways(one, other) if way_count(one, other) <= 48 else [wirings_of(pair[0])])
        self.assertGreater(told, 300)

    def test_with_itself(self):
        for text in ["a", "a~", "a & a", "(a + b) * (a | a)", "a * (a * a)"]:
            self.check(read_form(text), read_form(text))

    def test_not_the_same(self):
        for one, other in [("a", "a & a"), ("a * a", "a | a"), ("a * (b & c)", "(a * b) & (a * c)"), ("a", "b")]:
            self.assertIsNone(both_ways(read_form(one), read_form(other)))
        wide, more = bushy(5), bushy(5, "between")
        self.assertIsNone(both_ways(wide, more))

    def test_40_and_42_leaves(self):
        most = nested(bushy(4), 4)
        self.check(most, ("both", most[2], most[1]))
        more = nested(most, 1)
        self.assertEqual(raised(both_ways, more, more), ("TooMany", {"most": 40}))

    def test_64_and_more_choices(self):
        one = chosen_pair(8, 8)
        other = ("both", one[2], one[1])
        self.assertEqual(choice_count(one), 64)
        start = time.time()
        self.check(one, other)
        self.assertLess(time.time() - start, 5)
        six = read_form("((a & b) * (a & b)) * (((a & b) * (c & d)) * ((a & b) * (a + (b * c))))")
        self.assertEqual(choice_count(six), 64)
        self.check(six, moved(random.Random(422), six, 9))
        more = chosen_pair(5, 13)
        self.assertEqual((choice_count(more), len(leaf_list([more]))), (65, 18))
        self.assertEqual(raised(both_ways, more, ("both", more[2], more[1])), ("TooMany", {"most": 64}))


class WayCount(unittest.TestCase):
    def test_told(self):
        for text, many in [("a", 1), ("a & a", 2), ("a | (a | a)", 6), ("(a * a) + (a * a)", 8), ("a * b", 1), ("(a & b) * (b & a)", 2),
                           ("(b + b) * (a * a)", 8), ("a * (b + c)", 1), ("(a | b) & (a | b)", 2), ("((a & a) | b) & ((a & a) | b)", 24)]:
            form = read_form(text)
            self.assertEqual(way_count(form, form), many, text)

    def test_drawn(self):
        for one, other in pairs_of_forms(423, 300, 100):
            self.assertEqual(way_count(one, other), slow_count(flat_of(one)))
            self.assertEqual(way_count(other, one), way_count(one, other))

    def test_very_great(self):
        form = bushy(8)
        self.assertEqual(way_count(form, form), math.factorial(256))
        form = bushy(5, "offered", ("both", A, A))
        self.assertEqual(way_count(form, form), math.factorial(32) * 2 ** 32)
        form = ("both", bushy(3, "chosen"), bushy(3, "chosen"))
        self.assertEqual(way_count(form, form), math.factorial(64) * 2 ** 64)

    def test_not_the_same(self):
        self.assertEqual(way_count(A, B), 0)
        self.assertEqual(way_count(bushy(8), bushy(8, "between")), 0)


class Ways(unittest.TestCase):
    def test_against_all_deeds(self):
        """[42]: the ways are the Wirings of all deeds that some deed undoes."""
        for one, other in [("a", "a"), ("a", "a~"), ("a & a", "a & a"), ("a * a", "a * a"), ("a * (a + a)", "(a * a) + (a * a)"),
                           ("(a & a) & a", "a & (a & a)"), ("a | (b & a)", "(a | b) & (a | a)"), ("(a * a) & a", "a & (a * a)"),
                           ("a & a", "a"), ("a + (a & a)", "(a & a) + a"), ("(a & a) * b", "b * (a & a)"), ("a + a", "a & a")]:
            one, other = read_form(one), read_form(other)
            self.assertEqual([way.wirings for way in ways(one, other)], slow_ways(one, other))
        for one, other in pairs_of_forms(424, 60, 8, 2):
            if choice_count(one) < 4:
                self.assertEqual([way.wirings for way in ways(one, other)], slow_ways(one, other))

    def test_drawn(self):
        """They pair the choices and the met leaves; they are as many as told, ascending, each once."""
        for one, other in pairs_of_forms(425, 300, 24):
            if way_count(one, other) > 48 or choice_count(one) > 64:
                continue
            found = ways(one, other)
            self.assertIsInstance(found, list)
            self.assertEqual(len(found), way_count(one, other))
            rows = [way.wirings for way in found]
            self.assertEqual(rows, sorted(set(rows)))
            for way in found:
                self.assertEqual(way.ends, (other, counter_of(one)))
                self.check_pairs(one, other, way)

    def check_pairs(self, one, other, way):
        many = len(leaf_list([other]))
        forks = sum(form[0] in FORKS for form in self.within(other))
        mine, others = [], []
        for choice, links in way.wirings:
            there = tuple(pair for pair in choice if pair[0] < forks)
            here = tuple((fork - forks, side) for fork, side in choice if fork >= forks)
            mine.append(here)
            others.append(there)
            self.assertEqual(sorted(i for i, _ in links), list(met_leaves([other], there)))
            self.assertEqual(sorted(j - many for _, j in links), list(met_leaves([one], here)))
            for i, j in links:
                self.assertEqual(leaves([other])[i], leaves([one])[j - many])
        self.assertEqual(sorted(mine), sorted(choices([one])))
        self.assertEqual(sorted(others), sorted(choices([other])))

    def within(self, form):
        return [form] if len(form) == 2 else [form] + self.within(form[1]) + self.within(form[2])

    def test_each_is_undone(self):
        for one, other in pairs_of_forms(426, 60, 16, 2):
            if way_count(one, other) <= 8:
                for way in ways(one, other):
                    self.assertTrue(any(undo_each_other(deed_of(way), deed_of(back)) for back in ways(other, one)))

    def test_48_and_more(self):
        form = read_form("((a * a) * (a * a)) & (b & b)")
        self.assertEqual(way_count(form, form), 48)
        self.assertEqual(len(ways(form, form)), 48)
        for text, many in [("(a & (a & a)) * ((b & (b & b)) * b)", 36), ("(a * a) & ((a * a) & (a * a))", 48)]:
            form = read_form(text)
            self.assertEqual((way_count(form, form), len(ways(form, form))), (many, many))
        more = read_form("(a * (a * a)) & ((b * (b * b)) & (c & c))")
        self.assertEqual(way_count(more, more), 72)
        self.assertEqual(raised(ways, more, more), ("TooMany", {"most": 48}))

    def test_none(self):
        self.assertEqual(ways(A, B), [])
        self.assertEqual(ways(bushy(6), bushy(6, "between")), [])
        found = ways(A, B)
        found.append(1)
        self.assertEqual(ways(A, B), [])


class Bounds(unittest.TestCase):
    def test_the_order_of_too_many(self):
        """300 of both forms, then 48 ways, then 40 leaves, then 64 choices; the last three only for forms that are the same."""
        over_300 = bushy(9)
        over_48 = bushy(5)
        over_40 = grouped("both", 21, "a")
        over_64 = chosen_pair(5, 13)
        over_both = chosen_pair(7, 14)
        for call in (both_ways, ways, way_count):
            for one, other in [(over_300, A), (A, over_300), (over_300, over_300)]:
                self.assertEqual(raised(call, one, other), ("TooMany", {"most": 300}))
        self.assertEqual(raised(ways, over_48, over_48), ("TooMany", {"most": 48}))
        self.assertEqual(raised(both_ways, over_48, over_48), ("TooMany", {"most": 40}))
        for call in (ways, both_ways):
            self.assertEqual(raised(call, over_40, over_40), ("TooMany", {"most": 40}))
            self.assertEqual(raised(call, over_64, over_64), ("TooMany", {"most": 64}))
            self.assertEqual(raised(call, over_both, over_both), ("TooMany", {"most": 40}))
        for form in (over_48, over_40, over_64, over_both):
            self.assertGreater(way_count(form, form), 0)
            self.assertEqual((ways(form, A), both_ways(A, form), way_count(form, A)), ([], None, 0))

    def test_of_changed_end(self):
        """Behind those, what wirings_of raises, and then the leaves of the new ends."""
        self.assertEqual(raised(changed_end, Deed(LA), 0, bushy(9)), ("TooMany", {"most": 300}))
        for form, most in [(grouped("both", 20, "b"), 40), (chosen_pair(8, 8), 64), (chosen_pair(7, 14), 40)]:
            deed = Deed(("choose", LA, 0, 0, form))
            self.assertEqual(raised(changed_end, deed, 1, deed.ends[1]), ("TooMany", {"most": most}))
            self.assertIsNone(changed_end(deed, 1, A))
        wide = Deed(("both", passed_on(11).steps, ("choose", LA, 0, 0, chosen_pair(8, 8)), 1, 0))
        self.assertEqual(raised(changed_end, wide, 1, wide.ends[1]), ("TooMany", {"most": 64}))
        self.assertEqual(raised(changed_end, wide, 0, wide.ends[0]), ("TooMany", {"most": 2000}))
        self.assertIsNone(changed_end(wide, 0, A))
        shared = chosen_pair(8, 1)
        for many, most in [(11, 2000), (10, 40)]:
            deed = Deed(("both", passed_on(many).steps, plain_deed(shared).steps, 1, 1))
            self.assertEqual((deed.ends[1], len(leaf_list([shared])), flat_leaves(shared)), (shared, 9, 16))
            self.assertEqual(raised(changed_end, deed, 1, shared_out(shared)), ("TooMany", {"most": most}))

    def test_bad_value(self):
        for call in (both_ways, ways, way_count):
            self.assertEqual(raised(call, None, 5), ("BadValue", {"value": None}))
            self.assertEqual(raised(call, A, ["good", "a"]), ("BadValue", {"value": ["good", "a"]}))
            self.assertEqual(raised(call, bushy(9), 5), ("BadValue", {"value": 5}))


class ChangedEnd(unittest.TestCase):
    def hands(self, deed, number, form):
        """The deeds handed on at the end to each way, the ends put in order."""
        order = tuple(range(1, number + 1)) + (0,) + tuple(range(number + 1, len(deed.ends)))
        return [Deed(("turn", ("hand", deed_of(way).steps, deed.steps, 1, number), order)) for way in ways(deed.ends[number], form)]

    def test_at_each_end_of_drawn_deeds(self):
        chance = random.Random(427)
        told = 0
        for deed in random_deeds(428, 250):
            for number, end in enumerate(deed.ends):
                form = moved(chance, end, chance.randrange(5))
                if len(leaf_list([end, form])) > 14 or way_count(end, form) > 24:
                    continue
                told += 1
                changed = changed_end(deed, number, form)
                self.assertEqual(changed.ends, deed.ends[:number] + (form,) + deed.ends[number + 1:])
                self.assertTrue(any(alike(changed, hand) for hand in self.hands(deed, number, form)))
                self.assertIsNone(changed_end(deed, number, ("both", form, A)))
        self.assertGreater(told, 300)

    def test_told(self):
        turned = Deed(("between", ("both", LA, LA, 0, 0), 1, 0))
        two = read_form("a * a")
        self.assertEqual(changed_end(turned, 0, two).ends, turned.ends)
        pair = Deed(("both", ("choose", LA, 1, 0, ("both", A, B)), LA, 1, 1))
        self.assertIsNone(changed_end(pair, 0, B))

    def test_in_the_same_place(self):
        deed = Deed(("both", ("both", LA, link("b"), 0, 0), link("c"), 2, 0))
        form = read_form("a * (b * c)")
        changed = changed_end(deed, 3, form)
        self.assertEqual(changed.ends, deed.ends[:3] + (form,))
        for number in range(3):
            self.assertTrue(alike(changed_end(deed, number, deed.ends[number]), deed))

    def test_bad_value(self):
        deed = Deed(LA)
        self.assertEqual(raised(changed_end, LA, 0, A), ("BadValue", {"value": LA}))
        for number in [-1, 2, True, None, "0", 0.0]:
            self.assertEqual(raised(changed_end, deed, number, 5), ("BadValue", {"value": number}))
        for form in [None, ["good", "a"], ("good", "A"), bushy(13)]:
            self.assertEqual(raised(changed_end, deed, 0, form), ("BadValue", {"value": form}))

    def test_40_leaves_and_more(self):
        shared = chosen_pair(4, 1)
        other = shared_out(shared)
        steps = plain_deed(shared).steps
        for more in (bushy(3), bushy(2)):
            steps = ("both", steps, plain_deed(more).steps, len(Deed(steps).ends) - 1, 0)
        for many in (3, 4):
            told = steps
            for _ in range(many):
                told = ("choose", told, len(Deed(told).ends) - 1, 0, A)
            deed = Deed(told)
            self.assertEqual(deed.ends[0], shared)
            ends = (other,) + deed.ends[1:]
            self.assertEqual(len(leaf_list(ends)), 37 + many)
            if many == 3:
                self.assertEqual(changed_end(deed, 0, other).ends, ends)
            else:
                self.assertEqual(raised(changed_end, deed, 0, other), ("TooMany", {"most": 40}))

    def test_errors_of_deed(self):
        """A deed of 400 steps may have no room for more: then this is told, or a right deed."""
        steps = LA
        for _ in range(7):
            half = steps
            steps = ("hand", steps, steps, 1, 0)
        steps = ("hand", steps, half, 1, 0)
        while Deed(steps).size() < 400:
            steps = ("turn", steps, (1, 0))
        deed = Deed(steps)
        try:
            changed = changed_end(deed, 0, deed.ends[0])
        except DeedError as error:
            self.assertIn((type(error).__name__, vars(error)), [("TooMany", {"most": 400}), ("TooDeep", {"most": 100})])
        else:
            self.assertTrue(alike(changed, deed))

    def test_plain_again(self):
        for text in ["a & (b & a)", "a * (b + a)", "(a | b) | a"]:
            form = read_form(text)
            for way in ways(form, form):
                self.assertEqual(changed_end(deed_of(way), 0, form).ends, way.ends)
            self.assertTrue(any(is_plain_deed(deed_of(way)) for way in ways(form, form)))


def shared_out(form):
    """The form with what is beside a chosen form shared out."""
    if form[1][0] != "chosen":
        return form
    return ("chosen",) + tuple(shared_out(("both", half, form[2])) for half in form[1][1:])


if __name__ == "__main__":
    unittest.main()
