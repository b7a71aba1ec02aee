"""[19], [71]: taking Wirings at an end, and plain links."""
import itertools
import random
import unittest

from alldeeds.deeds import Deed, plain_deed
from alldeeds.formtexts import read_ends
from alldeeds.taking import is_plain_link, taken, takings
from alldeeds.wired import wirings_of
from alldeeds.wirings import Wirings
from making import (anti, every_wiring, fork_list, fork_places, good, leaf_list, leaf_places, link, partings, raised,
                    random_deeds, random_form, spread_out, told, wirings_meaning)

A, B = good("a"), good("b")
LA, LB = link("a"), link("b")
PLAIN = ((), ((0, 1),))


def kept(places, ends, wirings):
    """The Wirings of the ends with these numbers, in this order, with what stands in them of the wirings."""
    leaves, forks = {}, {}
    for at in places:
        for k, where in enumerate(leaf_places(ends)):
            if where == at:
                leaves[k] = len(leaves)
        for k, where in enumerate(fork_places(ends)):
            if where == at:
                forks[k] = len(forks)
    rows = []
    for choice, links in wirings:
        new_links = sorted(tuple(sorted((leaves[i], leaves[j]))) for i, j in links if i in leaves)
        rows.append((tuple(sorted((forks[f], s) for f, s in choice if f in forks)), tuple(new_links)))
    return Wirings([ends[at] for at in places], rows)


def fork_number(ends, end):
    """The number of the first fork of an end."""
    return sum(len(fork_list([form])) for form in ends[:end])


def without_fork(wirings, fork):
    """The wirings whose choices no longer name a fork, those behind it being numbered anew."""
    return [(tuple((f - (f > fork), s) for f, s in choice if f != fork), links) for choice, links in wirings]


def expected(wirings, end):
    """What is taken at an end as [19] tells it, slowly; None if nothing can be taken."""
    ends, rows = wirings.ends, wirings.wirings
    form = ends[end]
    if len(form) == 2:
        return None
    wide = spread_out(ends, end)
    rest = [k for k in range(len(wide)) if k not in (end, end + 1)]
    if form[0] == "between":
        return (kept(rest + [end, end + 1], wide, rows),)
    if form[0] in ("offered", "chosen"):
        fork = fork_number(ends, end)
        by_side = []
        for side in (0, 1):
            some = without_fork([row for row in rows if (fork, side) in row[0]], fork)
            by_side.append(kept(rest + [end + side], wide, some))
        if form[0] == "offered":
            return tuple(by_side)
        sides = {dict(choice)[fork] for choice, _ in rows}
        return (by_side[sides.pop()],) if len(sides) == 1 else None
    if not rows:
        return None
    groups = partings(wide, rows)
    left = [k for k in rest if groups[k] == groups[end]] + [end]
    right = [k for k in rest if groups[k] == groups[end + 1]] + [end + 1]
    if groups[end] == groups[end + 1] or len(left) + len(right) != len(wide):
        return None
    one, other = kept(left, wide, rows), kept(right, wide, rows)
    pairs = set()
    for row in rows:
        pairs.add((kept(left, wide, [row]).wirings[0], kept(right, wide, [row]).wirings[0]))
    if pairs != set(itertools.product(one.wirings, other.wirings)):
        return None
    return (one, other)


class Checks(unittest.TestCase):
    def check(self, wirings):
        """Compares all that is told of taking the Wirings with what the document says."""
        right = [expected(wirings, end) for end in range(len(wirings.ends))]
        found = takings(wirings)
        self.assertIsInstance(found, tuple)
        self.assertEqual(list(found), [end for end, what in enumerate(right) if what is not None])
        for end, what in enumerate(right):
            if what is None:
                self.assertEqual(raised(taken, wirings, end), ("CannotTake", {"end": end}))
            else:
                told_parts = taken(wirings, end)
                self.assertIsInstance(told_parts, tuple)
                self.assertEqual(told_parts, what)
        return right


class Each(Checks):
    def test_random_deeds(self):
        for deed in random_deeds(91, 200):
            self.check(wirings_of(deed))

    def test_any_wirings(self):
        chance = random.Random(92)
        counted = {}
        for _ in range(3000):
            ends = [random_form(chance, 2, "ab" if chance.random() < 0.4 else "a") for _ in range(chance.randrange(1, 4))]
            if len(leaf_list(ends)) > 8 or len(fork_list(ends)) > 4:
                continue
            found = every_wiring(ends)
            some = Wirings(ends, chance.sample(found, min(chance.randrange(6), len(found))))
            for form, what in zip(some.ends, self.check(some)):
                key = (form[0], what is not None, bool(some.wirings))
                counted[key] = counted.get(key, 0) + 1
        for word in ("both", "chosen"):
            self.assertGreater(counted[(word, True, True)], 5)
            self.assertGreater(counted[(word, False, True)], 10)

    def test_products(self):
        """Two Wirings side by side, of which the last ends become a both: it parts, unless a pair lacks."""
        chance = random.Random(93)
        parts = []
        while len(parts) < 40:
            ends = [random_form(chance, 2, "a") for _ in range(chance.randrange(1, 3))]
            found = every_wiring(ends) if len(leaf_list(ends)) <= 6 and len(fork_list(ends)) <= 3 else []
            if found:
                some = Wirings(ends, chance.sample(found, min(2, len(found))))
                groups = partings(some.ends, some.wirings)
                if len(set(groups)) == 1:
                    parts.append(some)
        lacking = 0
        for one in parts:
            for other in chance.sample(parts, 8):
                whole = joined(one, other)
                right = self.check(whole)
                self.assertEqual(right[-1], (one, other))
                many = len(whole.wirings)
                if many > 2:
                    lacking += 1
                    less = Wirings(whole.ends, whole.wirings[:1] + whole.wirings[2:])
                    self.assertIsNone(self.check(less)[-1])
        self.assertGreater(lacking, 10)


def joined(one, other):
    """Both Wirings side by side, with the both of their last ends as the last end."""
    ends = one.ends[:-1] + other.ends[:-1] + (("both", one.ends[-1], other.ends[-1]),)
    wide = one.ends[:-1] + other.ends[:-1] + (one.ends[-1], other.ends[-1])
    many, forks = len(one.ends), len(other.ends)
    rows = []
    for c, k in one.wirings:
        for d, m in other.wirings:
            leaves, choice = numbering(one, other, wide)
            rows.append((tuple(sorted([(choice[(0, f)], s) for f, s in c] + [(choice[(1, f)], s) for f, s in d])),
                         tuple(sorted([tuple(sorted((leaves[(0, i)], leaves[(0, j)]))) for i, j in k]
                                      + [tuple(sorted((leaves[(1, i)], leaves[(1, j)]))) for i, j in m]))))
    assert many and forks
    return Wirings(ends, rows)


def numbering(one, other, wide):
    """The numbers in the joined ends of the leaves and forks of both."""
    order = [(0, k) for k in range(len(one.ends) - 1)] + [(1, k) for k in range(len(other.ends) - 1)]
    order += [(0, len(one.ends) - 1), (1, len(other.ends) - 1)]
    leaves, forks = {}, {}
    for which, end in order:
        ends = (one, other)[which].ends
        for k, where in enumerate(leaf_places(ends)):
            if where == end:
                leaves[(which, k)] = len(leaves)
        for k, where in enumerate(fork_places(ends)):
            if where == end:
                forks[(which, k)] = len(forks)
    assert len(leaves) == len(leaf_list(wide))
    return leaves, forks


class Words(Checks):
    def test_between(self):
        some = told("c, a | b, c~ * (a~ * b~)", [((), ((0, 3), (1, 4), (2, 5)))])
        self.assertEqual(taken(some, 1), (told("c, c~ * (a~ * b~), a, b", [((), ((0, 1), (2, 4), (3, 5)))]),))
        for wirings in ([], [PLAIN]):
            self.assertEqual(taken(told("a | a~", wirings), 0), (told("a, a~", wirings),))
        self.assertEqual(taken(told("a | b", []), 0), (told("a, b", []),))
        two = told("a | a, a~, a~", [((), ((0, 2), (1, 3))), ((), ((0, 3), (1, 2)))])
        self.assertEqual(taken(two, 0)[0].wirings, (((), ((0, 2), (1, 3))), ((), ((0, 3), (1, 2)))))

    def test_offered(self):
        some = told("(a & b) & a, a~ + b~", [
            (((0, 0), (1, 1), (2, 1)), ((1, 4),)), (((0, 0), (1, 0), (2, 0)), ((0, 3),)), (((0, 1), (2, 0)), ((2, 3),))])
        left, right = taken(some, 0)
        self.assertEqual(left, told("a~ + b~, a & b", [(((0, 0), (1, 0)), ((0, 2),)), (((0, 1), (1, 1)), ((1, 3),))]))
        self.assertEqual(right, told("a~ + b~, a", [(((0, 0),), ((0, 2),))]))
        one_side = told("a & b, a~", [(((0, 0),), ((0, 2),))])
        self.assertEqual(taken(one_side, 0), (told("a~, a", [PLAIN]), told("a~, b", [])))
        self.assertEqual(taken(told("a & b", []), 0), (told("a", []), told("b", [])))

    def test_chosen(self):
        some = told("(a + b) + c, a~", [(((0, 0), (1, 0)), ((0, 3),))])
        self.assertEqual(taken(some, 0), (told("a~, a + b", [(((0, 0),), ((0, 1),))]),))
        self.assertEqual(taken(taken(some, 0)[0], 1), (told("a~, a", [PLAIN]),))
        for text in ("a + a", "a + b, a~"):
            none = told(text, [])
            self.assertEqual(takings(none), ())
            self.assertEqual(raised(taken, none, 0), ("CannotTake", {"end": 0}))
        both = told("a + a, a~", [(((0, 0),), ((0, 2),)), (((0, 1),), ((1, 2),))])
        self.assertEqual(takings(both), ())
        same = told("a + a, a~ & a~", [(((0, 1), (1, 0)), ((1, 2),)), (((0, 1), (1, 1)), ((1, 3),))])
        self.assertEqual(takings(same), (0, 1))
        self.assertEqual(taken(same, 0), (told("a~ & a~, a", [(((0, 0),), ((0, 2),)), (((0, 1),), ((1, 2),))]),))

    def test_both(self):
        some = told("a~, b~ | c~, a * (b * c)", [((), ((0, 3), (1, 4), (2, 5)))])
        self.assertEqual(taken(some, 2), (told("a~, a", [PLAIN]), told("b~ | c~, b * c", [((), ((0, 2), (1, 3)))])))
        turned = told("b~ | c~, a~, a * (b * c)", [((), ((0, 4), (1, 5), (2, 3)))])
        self.assertEqual(taken(turned, 2)[0], told("a~, a", [PLAIN]))
        self.assertEqual(takings(told("a~ | b~, a * b", [((), ((0, 2), (1, 3)))])), (0,))
        self.assertEqual(takings(told("a * a~", [PLAIN])), ())
        alone = told("(a | a~) * (b | b~)", [((), ((0, 1), (2, 3)))])
        self.assertEqual(taken(alone, 0), (told("a | a~", [PLAIN]), told("b | b~", [PLAIN])))
        self.assertEqual(takings(told("a * b, a~, b~", [])), ())

    def test_both_with_an_end_of_neither_half(self):
        some = told("a * b, a~, b~, c | c~", [((), ((0, 2), (1, 3), (4, 5)))])
        self.assertEqual(takings(some), (3,))
        some = told("a * b, a~, b~, c, c~", [((), ((0, 2), (1, 3), (4, 5)))])
        self.assertEqual(takings(some), ())

    def test_both_by_other_ends(self):
        """Places hang together over others, and over links of unlike wirings."""
        some = told("(a & a) * b, a~ | a~, a~ | b~, a | a", [])
        self.assertEqual(takings(some), (1, 2, 3))
        cross = told("a * a, a~, a~", [((), ((0, 2), (1, 3))), ((), ((0, 3), (1, 2)))])
        self.assertEqual(takings(cross), ())
        self.assertEqual(takings(told("a * a, a~, a~", [((), ((0, 2), (1, 3)))])), (0,))
        self.assertEqual(taken(told("a * a, a~, a~", [((), ((0, 3), (1, 2)))]), 0),
                         (told("a~, a", [PLAIN]), told("a~, a", [PLAIN])))
        over = told("a * b, a~ | c, c~ | b~", [((), ((0, 2), (1, 5), (3, 4)))])
        self.assertEqual(takings(over), (1, 2))

    def test_both_that_lacks_a_pair(self):
        """Each choice of the one half with each of the other one must be there."""
        ends = "(a & a) * (b & b), a~, b~"
        rows = [(((0, s), (1, t)), ((s, 4), (2 + t, 5))) for s in (0, 1) for t in (0, 1)]
        whole = told(ends, rows)
        self.assertEqual(takings(whole), (0,))
        left, right = taken(whole, 0)
        self.assertEqual(left, told("a~, a & a", [(((0, 0),), ((0, 1),)), (((0, 1),), ((0, 2),))]))
        self.assertEqual(right, told("b~, b & b", [(((0, 0),), ((0, 1),)), (((0, 1),), ((0, 2),))]))
        for many in (1, 2, 3):
            for some in itertools.combinations(rows, many):
                parts = len({row[0][0] for row in some}) * len({row[0][1] for row in some}) == many
                self.assertEqual(takings(told(ends, some)), (0,) if parts else ())

    def test_several_of_one_choice(self):
        rows = [((), ((0, 3), (1, 4), (2, 5))), ((), ((0, 4), (1, 3), (2, 5)))]
        some = told("(a | a) * b, a~ | a~, b~", rows)
        self.assertEqual(takings(some), (0, 1))
        left, right = taken(some, 0)
        self.assertEqual(left, told("a~ | a~, a | a", [((), ((0, 2), (1, 3))), ((), ((0, 3), (1, 2)))]))
        self.assertEqual(right, told("b~, b", [PLAIN]))

    def test_goods_and_counters(self):
        link_wirings = told("a, a~", [PLAIN])
        self.assertEqual(takings(link_wirings), ())
        for end in (0, 1):
            self.assertEqual(raised(taken, link_wirings, end), ("CannotTake", {"end": end}))

    def test_what_is_taken_is_kept_once(self):
        """Unlike wirings that are the same on a part become one."""
        rows = [(((0, s), (1, t)), ((s, 4), (2 + t, 5))) for s in (0, 1) for t in (0, 1)]
        for part in taken(told("(a & a) * (b & b), a~, b~", rows), 0):
            self.assertEqual(len(part.wirings), 2)
            self.assertEqual(len(set(part.wirings)), 2)


class Deeds(Checks):
    def parts_of(self, wirings, chance):
        """Takes the Wirings apart at random ends; True if plain links alone are left."""
        if is_plain_link(wirings):
            return True
        found = takings(wirings)
        if not found:
            return False
        return all(self.parts_of(part, chance) for part in taken(wirings, chance.choice(found)))

    def test_no_order_goes_wrong(self):
        chance = random.Random(94)
        for deed in random_deeds(95, 120):
            for _ in range(3):
                self.assertTrue(self.parts_of(wirings_of(deed), chance))
        for text in ["(a & b) * c", "(a | b) + (c * d)", "((a & b) | c) & (d + e)"]:
            self.assertTrue(self.parts_of(wirings_of(plain_deed(read_ends(text)[0])), chance))

    def test_the_last_step_is_taken_back(self):
        for deed in random_deeds(96, 150):
            whole, last = wirings_of(deed), len(deed.ends) - 1
            word = deed.steps[0]
            if word in ("both", "between", "offer", "choose"):
                self.assertIn(last, takings(whole))
                meanings = [wirings_meaning(part.ends, part.wirings) for part in taken(whole, last)]
                self.assertTrue(all(meanings))
            if word == "between" and deed.steps[2] < deed.steps[3]:
                one = Deed(deed.steps[1])
                i, j = deed.steps[2:]
                order = [k for k in range(len(one.ends)) if k not in (i, j)] + [i, j]
                self.assertEqual(taken(whole, last), (wirings_of(Deed(("turn", one.steps, tuple(order)))),))
            if word in ("offer", "choose"):
                parts = taken(whole, last)
                for step, at, part in zip([deed.steps[1], deed.steps[2]], deed.steps[3:] if word == "offer" else [deed.steps[2]],
                                          parts):
                    one = Deed(step)
                    order = [k for k in range(len(one.ends)) if k != at] + [at]
                    self.assertEqual(part, wirings_of(Deed(("turn", step, tuple(order)))))

    def test_of_no_deed(self):
        """Each of these is no plain link, or leads to one that is none and can be taken nowhere."""
        chance = random.Random(97)
        for some in [told("a * a~", [PLAIN]), told("a, a~", []), told("a & b, a~", [(((0, 0),), ((0, 2),))]),
                     told("a, a, a~, a~", [((), ((0, 2), (1, 3)))]), told("a * b, a~ * b~", [((), ((0, 2), (1, 3)))])]:
            self.assertFalse(self.parts_of(some, chance))


class PlainLinks(unittest.TestCase):
    def test_plain(self):
        for text in ("a, a~", "a~, a", "abc1, abc1~"):
            self.assertIs(is_plain_link(told(text, [PLAIN])), True)
        self.assertIs(is_plain_link(wirings=wirings_of(Deed(LA))), True)

    def test_others(self):
        for some in [told("a, a~", []), told("a, b~", []), told("a, a", []), told("a | a~", [PLAIN]), told("a * a~", [PLAIN]),
                     told("a", []), told("a~", []), told("a, a~, b, b~", [((), ((0, 1), (2, 3)))]), told("a~, b", []),
                     told("a * b, a~ | b~", [((), ((0, 2), (1, 3)))]), told("a + a, a~", [(((0, 0),), ((0, 2),))]),
                     wirings_of(Deed(("both", LA, LB, 0, 0))), wirings_of(Deed(("offer", LA, LA, 0, 0))),
                     wirings_of(plain_deed(("both", A, B))), told("a, a~ & a~", [(((0, 0),), ((0, 1),)), (((0, 1),), ((0, 2),))])]:
            self.assertIs(is_plain_link(some), False)


class WrongArguments(unittest.TestCase):
    def test_no_wirings(self):
        deed = Deed(LA)
        for value in [None, 5, [PLAIN], ((A, anti("a")), (PLAIN,)), deed, "a, a~"]:
            for call, rest in [(is_plain_link, ()), (takings, ()), (taken, (0,)), (taken, (None,)), (taken, (9,))]:
                kind, fields = raised(call, value, *rest)
                self.assertEqual(kind, "BadValue")
                self.assertIs(fields["value"], value)

    def test_no_ends(self):
        for some in [told("a | a~, b * b~", [((), ((0, 1), (2, 3)))]), told("a, a~", [PLAIN])]:
            for end in [2, -1, 7, True, False, None, "0", 0.0, (0,), [0], 10 ** 20]:
                kind, fields = raised(taken, some, end)
                self.assertEqual(kind, "BadValue")
                self.assertIs(fields["value"], end)

    def test_by_name(self):
        some = told("a | a~", [PLAIN])
        self.assertEqual(takings(wirings=some), (0,))
        self.assertEqual(taken(wirings=some, end=0), taken(some, 0))
        self.assertEqual(raised(taken, end=0, wirings=told("a * a~", [PLAIN])), ("CannotTake", {"end": 0}))
        self.assertEqual((some.ends, some.wirings), ((("between", A, anti("a")),), (PLAIN,)))


if __name__ == "__main__":
    unittest.main()
