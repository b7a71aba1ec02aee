"""[22], [73]: orders, counted and told."""
import random
import unittest

from alldeeds.back import comes_of_deed, deed_of
from alldeeds.deeds import Deed, plain_deed
from alldeeds.formtexts import read_form
from alldeeds.orders import count_orders, first_order
from alldeeds.taking import is_plain_link, taken, takings
from alldeeds.wired import wirings_of
from alldeeds.wirings import Wirings
from making import anti, bushy, every_wiring, good, leaf_list, link, raised, random_deeds, small_ends, told

A = good("a")
LA, LB = link("a"), link("b")
PLAIN = ((), ((0, 1),))


def slow_count(wirings, known):
    """The number of the orders, from takings alone."""
    if is_plain_link(wirings):
        return 1
    key = (wirings.ends, wirings.wirings)
    if key not in known:
        known[key] = 0
        for end in takings(wirings):
            many = 1
            for part in taken(wirings, end):
                many *= slow_count(part, known)
            known[key] += many
    return known[key]


def slow_first(wirings):
    """The told way, from takings alone."""
    if is_plain_link(wirings):
        return ()
    end = takings(wirings)[0]
    return (end,) + tuple(slow_first(part) for part in taken(wirings, end))


def halved_forms(ends):
    """How many forms of two halves stand in the ends."""
    return len(leaf_list(ends)) - len(ends)


def chain(many):
    """The deed of a0, a0~ * a1, a1~ * a2, .. with so many boths, one at each end but the first and the last one."""
    steps = ("turn", link("a0"), (1, 0))
    for k in range(many):
        # the counter that is left stands ahead of the last end
        deed = Deed(steps)
        at = [n for n, end in enumerate(deed.ends) if end == anti(f"a{k}")][0]
        steps = ("both", steps, link(f"a{k + 1}"), at, 0)
    return Deed(steps)


def catalan(many):
    found = [1]
    for k in range(many):
        found.append(sum(found[i] * found[k - i] for i in range(k + 1)))
    return found[many]


def two_trees(one, other):
    """All wirings of two ends that are offered alone: a good in trees of these depths, and its counter."""
    ends = (bushy(one, "offered", A), bushy(other, "offered", anti("a")))
    return Wirings(ends, every_wiring(ends))


def tree_orders(one, other):
    if one == other == 0:
        return 1
    many = 0
    if one:
        many += tree_orders(one - 1, other) ** 2
    if other:
        many += tree_orders(one, other - 1) ** 2
    return many


def offered_comb(many, offers):
    """Ends with so many goods, of which the first ones are offered, and the left comb of boths of all counters."""
    steps = None
    for k in range(many):
        one = link(f"x{k}")
        one = ("offer", one, one, 0, 0) if k < offers else ("turn", one, (1, 0))
        # the counter, or the comb of all counters so far, stands first
        steps = one if steps is None else ("both", steps, one, 0, 0)
        ends = len(Deed(steps).ends)
        steps = steps if k == 0 else ("turn", steps, (ends - 1,) + tuple(range(ends - 1)))
    return Deed(steps)


def comb_orders(offered, many, known):
    """The number of its orders, where these goods are still offered, and so many stand in the comb."""
    if (offered, many) not in known:
        total = 1 if not offered and many == 1 else 0
        for one in offered:
            total += comb_orders(offered - {one}, many, known) ** 2
        if many > 1:
            last = comb_orders(frozenset([0] if many - 1 in offered else []), 1, known)
            total += comb_orders(offered - {many - 1}, many - 1, known) * last
        known[(offered, many)] = total
    return known[(offered, many)]


class Checks(unittest.TestCase):
    def check(self, wirings):
        many = slow_count(wirings, {})
        found = count_orders(wirings)
        self.assertIs(type(found), int)
        self.assertEqual(found, many)
        self.assertIs(found > 0, comes_of_deed(wirings))
        if many:
            self.assertEqual(first_order(wirings), slow_first(wirings))
        else:
            self.assertEqual(raised(first_order, wirings), ("NotOfDeed", {}))
        return many


class Count(Checks):
    def test_drawn_deeds(self):
        found = {self.check(wirings_of(deed)) for deed in random_deeds(221, 220, "ab", 24, 8)}
        self.assertGreater(len(found), 8)

    def test_drawn_wirings(self):
        chance = random.Random(222)
        answers = []
        while len(answers) < 250:
            ends = small_ends(chance, 6, 3)
            every = every_wiring(ends)
            if every and len(every) < 200:
                answers.append(self.check(Wirings(ends, chance.sample(every, min(len(every), chance.randrange(1, 4))))))
        self.assertIn(0, answers)
        self.assertGreater(sum(answers), 20)

    def test_plain_deeds(self):
        for text in ["a * b", "(a * b) * c", "(a | b) & c", "(a + b) * (a & b)", "(a & b) | (c * d)"]:
            self.assertGreater(self.check(wirings_of(plain_deed(read_form(text)))), 0)

    def test_plain_links(self):
        for text in ("a, a~", "a~, a"):
            self.assertEqual((count_orders(told(text, [PLAIN])), first_order(told(text, [PLAIN]))), (1, ()))

    def test_no_deed(self):
        for some in [told("a, a~", []), told("a * a~", [PLAIN]), told("a & a, a~", [(((0, 0),), ((0, 2),))]), told("a", []),
                     told("a * a, a~, a~", [((), ((0, 2), (1, 3))), ((), ((0, 3), (1, 2)))])]:
            self.assertEqual(self.check(some), 0)

    def test_pairs_of_orders(self):
        """At a both each order of the one is an order with each of the other; nothing is told of how they mix."""
        self.assertEqual([count_orders(wirings_of(chain(many))) for many in range(1, 9)], [1, 2, 5, 14, 42, 132, 429, 1430])
        self.assertEqual([self.check(two_trees(*depths)) for depths in [(1, 0), (1, 1), (2, 1), (2, 2)]], [1, 2, 5, 50])

    def test_great_numbers(self):
        """Ends with 14 forms of two halves."""
        whole = wirings_of(chain(14))
        self.assertEqual(halved_forms(whole.ends), 14)
        self.assertEqual(count_orders(whole), catalan(14))
        trees = two_trees(3, 3)
        self.assertEqual(halved_forms(trees.ends), 14)
        self.assertEqual(count_orders(trees), tree_orders(3, 3))
        self.assertEqual(tree_orders(3, 3), 20173952)

    def test_very_great_numbers(self):
        """Seven offers and seven boths: at each offer the orders of both sides multiply."""
        for many, offers in [(2, 1), (2, 2), (3, 2)]:
            self.assertEqual(self.check(wirings_of(offered_comb(many, offers))), comb_orders(frozenset(range(offers)), many, {}))
        whole = wirings_of(offered_comb(8, 7))
        self.assertEqual((halved_forms(whole.ends), len(whole.wirings)), (14, 128))
        found = count_orders(whole)
        self.assertEqual(found, comb_orders(frozenset(range(7)), 8, {}))
        self.assertGreater(found, 10 ** 90)

    def test_plain_combs(self):
        """A both can be taken when the between across is: orders are ways to open and to close brackets."""
        for many in (1, 2, 3, 7):
            form = good("a0")
            for k in range(many):
                form = ("both", form, good(f"a{k + 1}"))
            whole = wirings_of(plain_deed(form))
            self.assertEqual(halved_forms(whole.ends), 2 * many)
            self.assertEqual(count_orders(whole), catalan(many))

    def test_betweens_that_wait_for_nothing(self):
        """Many ends a~ | b~, which may be taken in any order, also between those of the boths of all a * b."""
        block = ("between", ("both", LA, LB, 0, 0), 0, 1)
        steps = block
        found = []
        for many in range(2, 6):
            steps = ("both", steps, block, 0 if many == 2 else many - 1, 0)
            whole = wirings_of(Deed(steps))
            self.assertEqual(halved_forms(whole.ends), 3 * many - 1)
            found.append(count_orders(whole))
            self.assertEqual(found[-1], slow_count(whole, {}))
        self.assertGreater(found[-1], 500)


class First(Checks):
    def test_shape(self):
        for deed in random_deeds(223, 150):
            self.assert_order(first_order(wirings_of(deed)), wirings_of(deed))

    def assert_order(self, order, wirings):
        self.assertIsInstance(order, tuple)
        if is_plain_link(wirings):
            self.assertEqual(order, ())
            return
        parts = taken(wirings, order[0])
        self.assertEqual(order[0], min(takings(wirings)))
        self.assertEqual(len(order), 1 + len(parts))
        for below, part in zip(order[1:], parts):
            self.assert_order(below, part)

    def test_told_way(self):
        some = told("a, b * (a~ | b~)", [((), ((0, 2), (1, 3)))])
        self.assertEqual(count_orders(some), 0)
        some = told("b~ | (a~ * c), (a * b) | c~", [((), ((0, 4), (1, 3), (2, 5)))])
        self.assertEqual(first_order(some)[0], 0)
        self.assertEqual(first_order(some), slow_first(some))
        self.assertEqual(deed_of(some).ends, some.ends)


class WrongArguments(unittest.TestCase):
    def test_no_wirings(self):
        for value in [None, 5, [PLAIN], ((A, anti("a")), (PLAIN,)), Deed(LA), "a, a~", ()]:
            for call in (count_orders, first_order):
                kind, fields = raised(call, value)
                self.assertEqual(kind, "BadValue")
                self.assertIs(fields["value"], value)

    def test_by_name(self):
        some = told("a | a~", [PLAIN])
        self.assertEqual((count_orders(wirings=some), first_order(wirings=some)), (1, (0, ())))


if __name__ == "__main__":
    unittest.main()
