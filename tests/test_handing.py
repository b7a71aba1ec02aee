"""[13], [23], [74]: hand ons of Wirings, which need not come of deeds."""
import random
import unittest

from alldeeds.back import comes_of_deed
from alldeeds.deeds import Deed, plain_deed
from alldeeds.formtexts import ends_text, read_ends, read_form
from alldeeds.handing import handed
from alldeeds.wired import wirings_of
from alldeeds.wirings import Wirings, choices_of
from making import (anti, counter_of, every_wiring, fork_list, fork_places, forked_deeds, good, leaf_list, leaf_places, link, raised,
                    random_deeds, random_form, told)

A, B = good("a"), good("b")
LA, LB = link("a"), link("b")
PLAIN = ((), ((0, 1),))
LINK = told("a, a~", [PLAIN])


def numbers_in(places, end):
    return [k for k, where in enumerate(places) if where == end]


def slow_handed(one, other, i, j):
    """The hand on as [13] tells it: each way is walked from leaf to leaf, with leaves named by their side and number."""
    names, fork_names = [], []
    for which, some, left_out in ((0, one, i), (1, other, j)):
        names += [(which, k) for k, end in enumerate(leaf_places(some.ends)) if end != left_out]
        fork_names += [(which, k) for k, end in enumerate(fork_places(some.ends)) if end != left_out]
    here, there = numbers_in(leaf_places(one.ends), i), numbers_in(leaf_places(other.ends), j)
    across = {(0, k): (1, m) for k, m in zip(here, there)}
    across.update({(1, m): (0, k) for k, m in zip(here, there)})
    pairs = list(zip(numbers_in(fork_places(one.ends), i), numbers_in(fork_places(other.ends), j)))
    rows = []
    for v, k in one.wirings:
        for w, m in other.wirings:
            if all(dict(v).get(f) == dict(w).get(g) for f, g in pairs):
                rows.append(one_wiring(v, k, w, m, across, names, fork_names))
    ends = one.ends[:i] + one.ends[i + 1:] + other.ends[:j] + other.ends[j + 1:]
    return Wirings(ends, rows)


def one_wiring(v, k, w, m, across, names, fork_names):
    """The wiring that two wirings tell."""
    linked = {}
    for which, links in ((0, k), (1, m)):
        for x, y in links:
            linked[(which, x)], linked[(which, y)] = (which, y), (which, x)
    links = set()
    for start in linked:
        if start in names:
            leaf = linked[start]
            while leaf in across:
                leaf = linked[across[leaf]]
            links.add(tuple(sorted((names.index(start), names.index(leaf)))))
    sides = [((0, f), s) for f, s in v] + [((1, f), s) for f, s in w]
    choice = sorted((fork_names.index(fork), side) for fork, side in sides if fork in fork_names)
    return (tuple(choice), tuple(sorted(links)))


class Checks(unittest.TestCase):
    def check(self, one, other, i, j):
        found = handed(one, other, i, j)
        self.assertIsInstance(found, Wirings)
        self.assertEqual(found, slow_handed(one, other, i, j))
        self.assertEqual(len(set(found.wirings)), len(found.wirings))
        return found


def fitting(ones, others):
    """All ways to hand on one of these to one of the others, such that an end is left."""
    for one in ones:
        for other in others:
            for i, end in enumerate(one.ends):
                for j, there in enumerate(other.ends):
                    if counter_of(end) == there and len(one.ends) + len(other.ends) > 2:
                        yield one, other, i, j


class Deeds(Checks):
    def test_hand_ons_of_deeds(self):
        chance = random.Random(240)
        deeds = random_deeds(241, 120) + forked_deeds(244, 160)
        found = list(fitting(deeds, deeds))
        forked = [way for way in found if fork_list([way[0].ends[way[2]]])]
        self.assertGreater(len(forked), 200)
        for one, other, i, j in chance.sample(found, 150) + chance.sample(forked, 200):
            whole = wirings_of(Deed(("hand", one.steps, other.steps, i, j)))
            told_by_wirings = self.check(wirings_of(one), wirings_of(other), i, j)
            self.assertEqual(told_by_wirings, whole)
            self.assertTrue(comes_of_deed(told_by_wirings))
            self.assertEqual(len(choices_of(told_by_wirings)), len(told_by_wirings.wirings))

    def test_plain_deeds_change_nothing(self):
        for deed in random_deeds(242, 100):
            whole = wirings_of(deed)
            for end, form in enumerate(deed.ends):
                if len(leaf_list([form])) <= 8:
                    plain = wirings_of(plain_deed(form))
                    turned = wirings_of(Deed(("turn", deed.steps, tuple(
                        [k for k in range(len(deed.ends)) if k != end] + [end]))))
                    self.assertEqual(handed(whole, plain, end, 1), turned)

    def test_steps_of_hand_ons(self):
        steps = ("hand", ("both", LA, LB, 0, 0), ("between", ("both", LA, LB, 0, 0), 0, 1), 2, 1)
        one, other = wirings_of(Deed(steps[1])), wirings_of(Deed(steps[2]))
        self.assertEqual(self.check(one, other, 2, 1), wirings_of(Deed(steps)))


class Others(Checks):
    def drawn(self, chance, form):
        """Some wirings of ends of which one is the form."""
        while True:
            ends = [random_form(chance, 1, "a") for _ in range(chance.randrange(0, 3))]
            at = chance.randrange(len(ends) + 1)
            ends.insert(at, form)
            if len(leaf_list(ends)) <= 8 and len(fork_list(ends)) <= 5:
                every = every_wiring(ends)
                if every:
                    return Wirings(ends, chance.sample(every, min(len(every), chance.randrange(1, 7)))), at

    def test_drawn_wirings(self):
        chance = random.Random(243)
        sizes = {}
        forms = [form for form in [random_form(chance, 2, "a") for _ in range(600)] if 2 <= len(leaf_list([form])) <= 4]
        for form in forms[:150]:
            one, i = self.drawn(chance, form)
            other, j = self.drawn(chance, counter_of(form))
            if len(one.ends) + len(other.ends) > 2:
                found = self.check(one, other, i, j)
                many = min(2, len(found.wirings))
                sizes[many] = sizes.get(many, 0) + 1
        self.assertGreater(min(sizes[many] for many in (0, 1, 2)), 5)

    def test_no_two_wirings_meet(self):
        offer = told("a~, a & a", [(((0, 0),), ((0, 1),))])
        choose = told("a~ + a~, a", [(((0, 1),), ((1, 2),))])
        self.assertEqual(self.check(offer, choose, 1, 0), told("a~, a", []))
        self.assertEqual(self.check(told("a, a~", []), LINK, 1, 0), told("a, a~", []))
        self.assertEqual(self.check(LINK, told("a, a~", []), 1, 0), told("a, a~", []))

    def test_there_and_back_many_times(self):
        """From the first leaf over all that are handed on, to the last one."""
        for many in (3, 5, 9, 13):
            form = A
            for k in range(1, many):
                form = ("both", form, A if k % 2 == 0 else anti("a"))
            links = tuple((k, k + 1) for k in range(0, many, 2))
            one, other = Wirings([anti("a"), form], [((), links)]), Wirings([counter_of(form), A], [((), links)])
            self.assertEqual(self.check(one, other, 1, 0), told("a~, a", [PLAIN]))
        one, other = told("a~, (a * a~) * a", [((), ((0, 1), (2, 3)))]), told("(a~ | a) | a~, a", [((), ((0, 3), (1, 2)))])
        self.assertEqual(self.check(one, other, 1, 0), told("a~, a", [PLAIN]))

    def test_rings_leave_nothing(self):
        """Links that go round among leaves that are handed on."""
        one = told("b, b~, a * a~", [((), ((0, 1), (2, 3)))])
        other = told("a~ | a, c, c~", [((), ((0, 1), (2, 3)))])
        self.assertEqual(self.check(one, other, 2, 0), told("b, b~, c, c~", [((), ((0, 1), (2, 3)))]))

    def test_equal_ones_once(self):
        one = told("a * a, a~, a~", [((), ((0, 2), (1, 3))), ((), ((0, 3), (1, 2)))])
        other = told("a~ | a~, a, a", [((), ((0, 2), (1, 3))), ((), ((0, 3), (1, 2)))])
        found = self.check(one, other, 0, 0)
        self.assertEqual(found, told("a~, a~, a, a", [((), ((0, 2), (1, 3))), ((), ((0, 3), (1, 2)))]))

    def test_forks_of_forks(self):
        one = told("a~ + a~, (a & a) & a", [
            (((0, 0), (1, 0), (2, 0)), ((0, 2),)), (((0, 1), (1, 0), (2, 1)), ((1, 3),)), (((0, 0), (1, 1)), ((0, 4),))])
        other = told("(a~ + a~) + a~, a & a", [
            (((0, 0), (1, 1), (2, 0)), ((1, 3),)), (((0, 1), (2, 1)), ((2, 4),)), (((0, 1), (2, 0)), ((2, 3),))])
        found = self.check(one, other, 1, 0)
        self.assertEqual(found, told("a~ + a~, a & a", [
            (((0, 1), (1, 0)), ((1, 2),)), (((0, 0), (1, 1)), ((0, 3),)), (((0, 0), (1, 0)), ((0, 2),))]))

    def test_order_of_the_ends(self):
        one = told("b | b~, a, a~", [((), ((0, 1), (2, 3)))])
        other = told("c~, a~, a | c", [((), ((0, 3), (1, 2)))])
        self.assertEqual(ends_text(self.check(one, other, 1, 1).ends), "b | b~, a~, c~, a | c")
        self.assertEqual(ends_text(self.check(other, one, 1, 1).ends), "c~, a | c, b | b~, a~")


class WrongArguments(unittest.TestCase):
    def test_no_wirings(self):
        for value in [None, 5, [PLAIN], ((A, anti("a")), (PLAIN,)), Deed(LA), "a, a~", ()]:
            for told_arguments in [(value, LINK, 1, 0), (LINK, value, 1, 0), (value, None, 9, 9), (LINK, value, 9, 9)]:
                kind, fields = raised(handed, *told_arguments)
                self.assertEqual(kind, "BadValue")
                self.assertIs(fields["value"], value)

    def test_no_ends(self):
        for wrong in [2, -1, True, False, None, "0", 0.0, (0,), [1], 10 ** 20]:
            for told_arguments in [(LINK, LINK, wrong, 0), (LINK, LINK, 1, wrong), (LINK, LINK, wrong, 9), (LINK, LINK, wrong, None)]:
                kind, fields = raised(handed, *told_arguments)
                self.assertEqual(kind, "BadValue")
                self.assertIs(fields["value"], wrong)

    def test_ends_that_are_no_counters(self):
        some = told("a~, b", [])
        for told_arguments, value in [((LINK, LINK, 0, 0), 0), ((LINK, LINK, 1, 1), 1), ((LINK, some, 1, 1), 1), ((some, LINK, 1, 0), 0),
                                      ((told("a * b, c", []), told("b~ | a~, c", []), 0, 0), 0)]:
            self.assertEqual(raised(handed, *told_arguments), ("BadValue", {"value": value}))

    def test_no_end_left(self):
        self.assertEqual(raised(handed, told("a | a~", [PLAIN]), told("a~ * a", [PLAIN]), 0, 0), ("BadValue", {"value": 0}))
        self.assertEqual(raised(handed, told("a | a~", [PLAIN]), told("a * a~", [PLAIN]), 0, 0), ("BadValue", {"value": 0}))
        self.assertEqual(handed(told("a | a~", [PLAIN]), told("a~ * a, c", []), 0, 0), told("c", []))

    def test_too_many_leaves(self):
        """40 leaves that are left are not too many, 41 are."""
        half = ["x"] * 20
        for more, error in [([], None), (["x"], ("TooMany", {"most": 40}))]:
            one = told(", ".join(half + ["a"]), [])
            other = told(", ".join(["a~"] + half[1:] + ["x"] + more), [])
            self.assertEqual(len(one.ends) + len(other.ends) - 2, 40 + len(more))
            if error:
                self.assertEqual(raised(handed, one, other, 20, 0), error)
                self.assertEqual(raised(handed, one, other, 20, 1), ("BadValue", {"value": 1}))
                self.assertEqual(raised(handed, one, other, 19, 0), ("BadValue", {"value": 0}))
            else:
                self.assertEqual(len(handed(one, other, 20, 0).ends), 40)
        great = read_form("(((a * a) * (a * a)) * ((a * a) * (a * a))) * (((a * a) * (a * a)) * ((a * a) * (a * a)))")
        wide = Wirings([great, great, B], [])
        self.assertEqual(len(handed(wide, Wirings([counter_of(great), great, B], []), 1, 0).ends), 4)
        self.assertEqual(raised(handed, Wirings([great, great, A], []), Wirings([anti("a"), great], []), 2, 0),
                         ("TooMany", {"most": 40}))

    def test_by_name(self):
        self.assertEqual(handed(one=LINK, other=LINK, i=1, j=0), LINK)
        self.assertEqual(handed(LINK, j=0, i=1, other=LINK), LINK)
        self.assertEqual((LINK.ends, LINK.wirings), (tuple(read_ends("a, a~")), (PLAIN,)))


if __name__ == "__main__":
    unittest.main()
