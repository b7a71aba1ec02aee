"""[45], [75]: rows of middles, and deeds of a row handed on to one another."""
import itertools
import random
import unittest

from alldeeds.deeds import Deed
from alldeeds.formtexts import ends_text, read_ends
from alldeeds.handing import handed
from alldeeds.likeness import alike
from alldeeds.midway import crossing_goods, middle_form
from alldeeds.rows import joined_row, midways
from alldeeds.wired import wirings_of
from making import (WITHOUT_HANDS, bushy, counter_of, fork_list, good, has_hand, leaf_list, link, names_in, raised,
                    random_deeds)

A, B = good("a"), good("b")
LA, LB = link("a"), link("b")
PAIR = Deed(("both", LA, LB, 0, 0))
TWICE = Deed(("hand", LA, LA, 1, 0))


def rows_of(many):
    """All ways to part so many numbers in two lists or more, in any order of the lists."""
    found = []
    for size in range(2, many + 1):
        for told in itertools.product(range(size), repeat=many):
            if len(set(told)) == size:
                found.append(tuple(tuple(k for k in range(many) if told[k] == which) for which in range(size)))
    return found


def many_ended(seed, many, most_leaves, least=2):
    """Deeds without hand ons, with several ends."""
    deeds = random_deeds(seed, many, "ab", 30, most_leaves, (), WITHOUT_HANDS + ("both", "both", "choose"))
    return [deed for deed in deeds if least <= len(deed.ends) <= 6]


def joined_at(row, at):
    """The row in which the Wirings at this place and the next one are handed on to one another."""
    one, other = row[at], row[at + 1]
    return row[:at] + [handed(one, other, len(one.ends) - 1, 0)] + row[at + 2:]


class Checks(unittest.TestCase):
    def check(self, deed, lists, chance):
        told = midways(deed, lists)
        self.assertIsInstance(told, tuple)
        middles, row = told
        self.assertEqual([type(middles), type(row)], [tuple, tuple])
        self.assertEqual((len(middles), len(row)), (len(lists) - 1, len(lists)))
        self.assertEqual(middles[0], middle_form(deed, lists[0]))
        for k, one in enumerate(row):
            ends = [counter_of(middles[k - 1])] if k else []
            ends += [deed.ends[end] for end in lists[k]]
            ends += [middles[k]] if k < len(middles) else []
            self.assertEqual(one.ends, tuple(ends))
            self.assertFalse(has_hand(one.steps))
        for k, form in enumerate(middles):
            first = sorted(end for numbers in lists[:k + 1] for end in numbers)
            self.assertLessEqual(names_in(form), set(crossing_goods(deed, first)))
        self.check_joined(deed, lists, row, chance)

    def check_joined(self, deed, lists, row, chance):
        order = tuple(end for numbers in lists for end in numbers)
        right = wirings_of(Deed(("turn", deed.steps, order)))
        whole = joined_row(row)
        self.assertEqual(wirings_of(whole), right)
        steps = row[0].steps
        for one in row[1:]:
            steps = ("hand", steps, one.steps, len(Deed(steps).ends) - 1, 0)
        self.assertEqual(whole.steps, steps)
        some = [wirings_of(one) for one in row]
        while len(some) > 1:
            some = joined_at(some, chance.randrange(len(some) - 1))
        self.assertEqual(some[0], right)


class Rows(Checks):
    def test_each_row_of_drawn_deeds(self):
        chance = random.Random(261)
        lengths = {}
        for deed in many_ended(262, 250, 10):
            found = rows_of(len(deed.ends))
            for lists in chance.sample(found, min(len(found), 12)):
                self.check(deed, lists, chance)
                lengths[len(lists)] = lengths.get(len(lists), 0) + 1
        self.assertGreater(min(lengths.get(k, 0) for k in (2, 3, 4)), 10)

    def test_five_lists(self):
        chance = random.Random(263)
        steps = ("both", ("both", ("both", LA, LB, 0, 0), LA, 2, 0), LB, 3, 1)
        for deed in [Deed(steps), Deed(("offer", ("choose", steps, 0, 0, B), ("choose", ("turn", steps, (0, 1, 2, 3, 4)), 0, 0, B), 0, 0))]:
            self.assertEqual(len(deed.ends), 5)
            for lists in chance.sample([lists for lists in rows_of(5) if len(lists) == 5], 12):
                self.check(deed, lists, chance)
            for lists in chance.sample([lists for lists in rows_of(5) if len(lists) in (3, 4)], 12):
                self.check(deed, lists, chance)

    def test_forks(self):
        chance = random.Random(264)
        deeds = [deed for deed in many_ended(265, 300, 9, 3) if "offered" in [word for word, _ in fork_list(deed.ends)]]
        self.assertGreater(len(deeds), 20)
        for deed in deeds[:40]:
            for lists in chance.sample(rows_of(len(deed.ends)), 5):
                self.check(deed, lists, chance)

    def test_two_lists(self):
        middles, row = midways(PAIR, ((1,), (0, 2)))
        self.assertEqual((middles, [ends_text(one.ends) for one in row]), ((good("b"),), ["b~, b", "b~, a~, a * b"]))

    def test_lists_and_tuples(self):
        for lists in ([[0], [1, 2]], ((0,), [1, 2]), [(0,), (1, 2)]):
            found = midways(PAIR, lists)
            self.assertEqual(found[0], midways(PAIR, ((0,), (1, 2)))[0])
            self.assertEqual(found[1], midways(PAIR, ((0,), (1, 2)))[1])

    def test_ends_across(self):
        """Goods that only go over a list are handed through it."""
        steps = ("both", ("both", LA, LB, 0, 0), link("c"), 2, 0)
        middles, row = midways(Deed(steps), ((0,), (1,), (2,), (3,)))
        self.assertEqual([sorted(names_in(form)) for form in middles], [["a"], ["a", "b"], ["a", "b", "c"]])
        self.assertEqual(len(row[1].ends), 3)

    def test_within_the_limits_nothing_is_raised(self):
        """Deeds of 30 steps at most with 14 leaves at most, with forms that are as deep as they can be."""
        steps = LA
        for k in range(12):
            steps = ("offer", steps, LA, 0 if k == 0 else 1, 0)
        deed = Deed(steps)
        self.assertEqual((deed.size(), len(leaf_list(deed.ends))), (25, 14))
        for lists in (((0,), (1,)), ((1,), (0,))):
            middles, row = midways(deed, lists)
            self.assertTrue(alike(joined_row(row), Deed(("turn", deed.steps, lists[0] + lists[1]))))
        chance = random.Random(266)
        deeds = [deed for deed in many_ended(267, 250, 14, 3) if len(leaf_list(deed.ends)) > 10]
        self.assertGreater(len(deeds), 20)
        for deed in deeds[-40:]:
            self.check(deed, chance.choice(rows_of(len(deed.ends))), chance)


class Joined(unittest.TestCase):
    def test_two_and_more(self):
        turned = Deed(("turn", LA, (1, 0)))
        plain = Deed(LA)
        for many in range(2, 8):
            row = [turned] * many
            whole = joined_row(row)
            self.assertEqual(wirings_of(whole), wirings_of(turned))
            self.assertEqual(whole.size(), 3 * many - 1)
        self.assertEqual(joined_row((turned, turned)).steps, ("hand", turned.steps, turned.steps, 1, 0))
        self.assertEqual(joined_row([plain, plain]).steps, ("hand", LA, LA, 1, 0))
        self.assertEqual(joined_row([plain, plain, plain]).steps, ("hand", ("hand", LA, LA, 1, 0), LA, 1, 0))

    def test_hand_ons_within(self):
        self.assertEqual(joined_row([TWICE, TWICE]).steps, ("hand", TWICE.steps, TWICE.steps, 1, 0))

    def test_first_and_last_may_have_one_end(self):
        single = Deed(("between", LA, 0, 1))
        wide = Deed(("both", LA, ("turn", LA, (1, 0)), 1, 1))
        self.assertEqual(ends_text(wide.ends), "a, a~, a~ * a")
        first = Deed(("turn", wide.steps, (2, 0, 1)))
        self.assertEqual(joined_row([single, first]).ends, tuple(read_ends("a, a~")))
        flipped = Deed(("between", ("turn", LA, (1, 0)), 0, 1))
        last = Deed(("both", LA, LA, 0, 1))
        self.assertEqual(ends_text(last.ends), "a~, a, a * a~")
        self.assertEqual(joined_row([last, flipped]).ends, tuple(read_ends("a~, a")))


class WrongArguments(unittest.TestCase):
    def test_no_deed(self):
        for value in [None, 5, LA, PAIR.steps, wirings_of(PAIR), "link a", ()]:
            for lists in (((0,), (1, 2)), None, ((0,),)):
                kind, fields = raised(midways, value, lists)
                self.assertEqual(kind, "BadValue")
                self.assertIs(fields["value"], value)

    def test_no_lists(self):
        for lists in [(), ((0, 1, 2),), ((0,), (1,)), ((0,), (1, 2), ()), ((), (0, 1, 2)), ((0,), (2, 1)), ((0, 1), (1, 2)), None, 5,
                      "012", ((0,), 1, 2), ((0,), (1, 3)), ((0,), (True, 2)), ((0,), (-1, 2)), ((0,), None), ((0.0,), (1, 2)),
                      {0: (0,), 1: (1, 2)}, [[0], [1], [2], [0]], ((0,), (1, 2), (3,)), ((0,), "12"), [0, 1, 2], range(3)]:
            kind, fields = raised(midways, PAIR, lists)
            self.assertEqual(kind, "BadValue")
            self.assertIs(fields["value"], lists)
        single = Deed(("between", LA, 0, 1))
        self.assertEqual(raised(midways, single, ((0,),)), ("BadValue", {"value": ((0,),)}))

    def test_hand_ons(self):
        self.assertEqual(raised(midways, TWICE, ((0,), (1,))), ("HasHand", {"at": 3}))
        self.assertEqual(raised(midways, TWICE, ((0,), (1, 1))), ("BadValue", {"value": ((0,), (1, 1))}))

    def test_errors_of_midway(self):
        def grown(steps, many):
            made = steps
            for k in range(many):
                made = ("offer", made, steps, 0 if k == 0 else 1, 0)
            return made

        for many, more, error in [(12, 1, ("TooDeep", {"most": 12})), (9, 3, ("TooMany", {"most": 40}))]:
            deed = Deed(grown(grown(LA, many), more))
            self.assertEqual(raised(midways, deed, ((0,), (1,))), error)
            self.assertEqual(raised(midways, deed, ((1,), (0,))), error)

    def test_no_row(self):
        for deeds in [None, 5, "ab", PAIR, {}, {0: PAIR, 1: PAIR}, (), [], [PAIR], (PAIR,), [None], (5,)]:
            kind, fields = raised(joined_row, deeds)
            self.assertEqual(kind, "BadValue")
            self.assertIs(fields["value"], deeds)
        for wrong in [None, 5, LA, [], wirings_of(PAIR), "link a"]:
            for deeds in ([PAIR, wrong], [wrong, PAIR], (PAIR, PAIR, wrong, None), [wrong, None]):
                kind, fields = raised(joined_row, deeds)
                self.assertEqual(kind, "BadValue")
                self.assertIs(fields["value"], wrong)

    def test_unlike(self):
        single = Deed(("between", LA, 0, 1))
        other = Deed(("between", ("turn", LA, (1, 0)), 0, 1))
        for deeds in [(PAIR, PAIR), (Deed(LA), Deed(LB)), (Deed(LA), Deed(("turn", LA, (1, 0)))), (Deed(LA), Deed(LA), Deed(LB)),
                      (single, single), (single, other), (Deed(LA), single, Deed(LA)), (single, single, single), (PAIR, single)]:
            self.assertEqual(raised(joined_row, deeds), ("Unlike", {}))

    def test_single_ends_within_a_row(self):
        """All ends fit, but one end cannot be handed on twice."""
        alone = Deed(("between", ("turn", LA, (1, 0)), 0, 1))
        first = Deed(("both", LA, LA, 0, 1))
        self.assertEqual([ends_text(one.ends) for one in (alone, first)], ["a~ | a", "a~, a, a * a~"])
        last = Deed(("turn", first.steps, (2, 0, 1)))
        self.assertEqual(raised(joined_row, (first, alone, last)), ("Unlike", {}))
        self.assertEqual(joined_row((first, alone)).ends, joined_row((alone, last)).ends)

    def test_the_errors_of_deed(self):
        steps = LA
        for _ in range(98):
            steps = ("turn", steps, (1, 0))
        deed = Deed(steps)
        self.assertEqual(joined_row([deed, Deed(LA)]).size(), 101)
        self.assertEqual(raised(joined_row, (deed, Deed(LA), Deed(LA))), ("TooDeep", {"most": 100}))
        self.assertEqual(raised(joined_row, [deed] * 5), ("TooMany", {"most": 400}))

    def test_too_many_leaves_on_the_way(self):
        """40 leaves are left, or 42: then the step is wrong."""
        for more, error in [(B, None), (("both", B, B), ("WrongStep", {"at": 6}))]:
            wide = ("both", bushy(4), ("both", ("both", B, B), more))
            one = Deed(("turn", ("choose", LA, 0, 0, wide), (1, 0)))
            other = Deed(("choose", LA, 1, 0, wide))
            if error:
                self.assertEqual(raised(joined_row, (one, other)), error)
            else:
                self.assertEqual(len(leaf_list(joined_row((one, other)).ends)), 40)

    def test_by_name(self):
        self.assertEqual(midways(deed=PAIR, lists=((0,), (1, 2)))[0], (A,))
        self.assertEqual(midways(lists=((0,), (1, 2)), deed=PAIR)[0], (A,))
        self.assertEqual(joined_row(deeds=[Deed(LA), Deed(LA)]), TWICE)
        row = [Deed(LA), Deed(LA)]
        joined_row(row)
        self.assertEqual(row, [Deed(LA), Deed(LA)])


if __name__ == "__main__":
    unittest.main()
