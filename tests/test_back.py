"""[17], [18], [20], [21], [72]: what comes of a deed, where nothing can be taken, and the deed that the told way tells."""
import itertools
import random
import unittest

from alldeeds.askings import first_unanswered
from alldeeds.back import comes_of_deed, deed_of, stuck_at
from alldeeds.cuts import first_unsound
from alldeeds.deeds import Deed, plain_deed
from alldeeds.formtexts import read_form
from alldeeds.taking import is_plain_link, taken, takings
from alldeeds.wired import wirings_of
from alldeeds.wirings import Wirings
from making import (all_steps, anti, deed_sets, every_wiring, fork_list, good, has_hand, link, partings, raised, random_deeds,
                    small_ends, spread_out, told)

A = good("a")
LA, LB = link("a"), link("b")
PAIR = ("both", LA, LB, 0, 0)
PLAIN = ((), ((0, 1),))
SIDES = [(0, 0), (0, 1), (1, 0), (1, 1)]
# each chosen end takes the side that is asked at the offer of the other good
CROSSWISE = told("(a & a) * (b & b), a~ + a~, b~ + b~", [
    (((0, i), (1, j), (2, j), (3, i)), ((i, 4 + j), (2 + j, 6 + i))) for i, j in SIDES])


def slow_stuck(wirings):
    """What stuck_at tells, from takings alone."""
    if is_plain_link(wirings):
        return None
    found = takings(wirings)
    if not found:
        return wirings
    for part in taken(wirings, found[0]):
        stuck = slow_stuck(part)
        if stuck is not None:
            return stuck
    return None


def ends_of_taking(wirings, end):
    """For the taking at this end, which ends the step that is told of it has: their numbers in the Wirings."""
    others = [k for k in range(len(wirings.ends)) if k != end]
    if wirings.ends[end][0] == "both":
        groups = partings(spread_out(wirings.ends, end), wirings.wirings)
        others = [k for k in others if groups[k + (k > end)] == groups[end]] + [
            k for k in others if groups[k + (k > end)] == groups[end + 1]]
    return others + [end]


def slow_steps(wirings):
    """The steps that [21] tells, from takings alone."""
    if is_plain_link(wirings):
        name = wirings.ends[0][1]
        return link(name) if wirings.ends[0][0] == "good" else ("turn", link(name), (1, 0))
    end = takings(wirings)[0]
    form, parts = wirings.ends[end], taken(wirings, end)
    within = tuple(slow_steps(part) for part in parts)
    last = [len(part.ends) - 1 for part in parts]
    if form[0] == "between":
        step = ("between",) + within + (last[0] - 1, last[0])
    elif form[0] == "chosen":
        fork = sum(len(fork_list([other])) for other in wirings.ends[:end])
        side = dict(wirings.wirings[0][0])[fork]
        step = ("choose",) + within + (last[0], side, form[2 - side])
    else:
        step = ("both" if form[0] == "both" else "offer",) + within + tuple(last)
    ends = ends_of_taking(wirings, end)
    order = tuple(ends.index(k) for k in range(len(ends)))
    return step if order == tuple(range(len(ends))) else ("turn", step, order)


def come_apart(wirings, chance):
    """Whether plain links alone are left if it is taken at drawn ends."""
    if is_plain_link(wirings):
        return True
    found = takings(wirings)
    return bool(found) and all([come_apart(part, chance) for part in taken(wirings, chance.choice(found))])


class Checks(unittest.TestCase):
    def check(self, wirings):
        """Compares all that is told of the Wirings with what the document says; True if they come of a deed."""
        stuck = slow_stuck(wirings)
        self.assertEqual(stuck_at(wirings), stuck)
        self.assertIs(comes_of_deed(wirings), stuck is None)
        if stuck is not None:
            self.assertIsInstance(stuck_at(wirings), Wirings)
            self.assertEqual(raised(deed_of, wirings), ("NotOfDeed", {}))
            return False
        deed = deed_of(wirings)
        self.assertIsInstance(deed, Deed)
        self.assertEqual(deed.steps, slow_steps(wirings))
        self.assertEqual(deed.ends, wirings.ends)
        self.assertEqual(wirings_of(deed), wirings)
        self.assertFalse(has_hand(deed.steps))
        for step in all_steps(deed.steps):
            if step[0] == "turn":
                self.assertNotEqual(step[1][0], "turn")
                self.assertNotEqual(step[2], tuple(range(len(step[2]))))
        return True


class Deeds(Checks):
    def test_drawn_deeds(self):
        words = set()
        for deed in random_deeds(201, 350) + random_deeds(202, 150, "a", 30, 10):
            self.assertTrue(self.check(wirings_of(deed)))
            words.update(step[0] for step in all_steps(deed.steps))
        self.assertEqual(len(words), 7)

    def test_plain_deeds(self):
        for text in ["a", "a~", "a * b", "(a & b) | c~", "(a + b) & (c * a)", "((a | b) * (c & c)) + a", "(a & (b & c)) + (d * e)"]:
            self.assertTrue(self.check(wirings_of(plain_deed(read_form(text)))))

    def test_great_deeds(self):
        for deed in random_deeds(203, 60, "abc", 60, 24)[-30:]:
            self.assertTrue(self.check(wirings_of(deed)))

    def test_any_order_of_taking(self):
        chance = random.Random(204)
        answers = set()
        for some in drawn_wirings(chance, 300) + [wirings_of(deed) for deed in random_deeds(205, 100)]:
            answers.update(come_apart(some, chance) is comes_of_deed(some) for _ in range(3))
        self.assertEqual(answers, {True})

    def test_the_told_deed_depends_on_the_wirings_alone(self):
        one = Deed(("turn", ("between", ("turn", PAIR, (1, 0, 2)), 1, 0), (1, 0)))
        other = Deed(("turn", ("between", PAIR, 0, 1), (1, 0)))
        both = ("both", ("turn", LA, (1, 0)), ("turn", LB, (1, 0)), 1, 1)
        for deed in (one, other):
            steps = ("turn", ("between", ("turn", both, (2, 0, 1)), 1, 2), (1, 0))
            self.assertEqual(deed_of(wirings_of(deed)).steps, steps)


def drawn_wirings(chance, many):
    """So many Wirings of drawn ends, that come of deeds or not: some wirings of deeds, and some of them changed."""
    found = []
    deeds = [deed for deed in random_deeds(206, 250, "ab") if len(fork_list(deed.ends)) <= 4]
    while len(found) < many:
        ends = chance.choice(deeds).ends if chance.random() < 0.7 else small_ends(chance, 6, 4, "a")
        every = every_wiring(ends)
        if 0 < len(every) < 300:
            found.append(Wirings(ends, chance.sample(every, min(chance.randrange(1, 5), len(every)))))
    return found


class Whether(Checks):
    """All sets of wirings of some ends come of a deed, or not, as all last steps that are tried one by one say."""

    def check_ends(self, ends):
        every = every_wiring(ends)
        if len(every) > 9:
            return 0
        right = deed_sets(ends)
        for many in range(len(every) + 1):
            for some in itertools.combinations(every, many):
                self.assertIs(comes_of_deed(Wirings(ends, some)), some in right)
        return len(right)

    def test_ends_of_deeds(self):
        found = 0
        for deed in random_deeds(207, 260, "ab", 20, 8):
            if len(fork_list(deed.ends)) <= 3:
                found += self.check_ends(deed.ends)
        self.assertGreater(found, 200)

    def test_any_ends(self):
        chance = random.Random(208)
        for _ in range(300):
            self.check_ends(small_ends(chance, 6, 3))

    def test_told_ends(self):
        for text in ["a & a, a~ + a~", "a, a~ & a~", "(a & a) | (a~ + a~)", "a * a, a~ | a~", "a & (a + a), a~", "a + a, a~ + a~",
                     "a | (a & a), a~ * a~", "a * (a + b), a~, a~"]:
            self.assertGreater(self.check_ends(told(text, []).ends), 0)

    def test_drawn_wirings(self):
        answers = [self.check(some) for some in drawn_wirings(random.Random(209), 400)]
        self.assertGreater(answers.count(True), 30)
        self.assertGreater(answers.count(False), 100)


class NoDeed(Checks):
    """Wirings that come of no deed, of each sort that [20] names."""

    def check_stuck(self, some, stuck):
        self.assertFalse(self.check(some))
        self.assertEqual(stuck_at(some), stuck)

    def test_an_offered_side_that_no_wiring_takes(self):
        self.check_stuck(told("a & a, a~", [(((0, 0),), ((0, 2),))]), told("a~, a", []))
        self.check_stuck(told("a & b, a~", [(((0, 0),), ((0, 2),))]), told("a~, b", []))
        self.check_stuck(told("a~, (a & a) & a", [(((0, 0), (1, 0)), ((0, 1),)), (((0, 1),), ((0, 3),))]), told("a~, a", []))

    def test_two_wirings_of_one_choice(self):
        two = [((), ((0, 2), (1, 3))), ((), ((0, 3), (1, 2)))]
        self.check_stuck(told("a * a, a~, a~", two), told("a * a, a~, a~", two))
        self.check_stuck(told("a * a, a~ | a~", two), told("a * a, a~, a~", two))

    def test_a_ring_of_links(self):
        for text in ("a * a~", "a~ * a"):
            self.check_stuck(told(text, [PLAIN]), told(text, [PLAIN]))
        ring = told("a * b, a~ * b~", [((), ((0, 2), (1, 3)))])
        self.check_stuck(ring, ring)
        within = told("a & (a | (a * a~)), a~", [(((0, 0),), ((0, 4),)), (((0, 1),), ((1, 4), (2, 3)))])
        self.check_stuck(within, told("a~, a, a * a~", [((), ((0, 1), (2, 3)))]))

    def test_sides_that_hang_on_an_offer_that_they_must_not_know(self):
        self.check_stuck(CROSSWISE, CROSSWISE)
        self.assertIsNone(first_unsound(CROSSWISE))
        self.assertIsNone(first_unanswered(CROSSWISE))
        self.assertEqual(len(CROSSWISE.wirings), 4)
        straight = Wirings(CROSSWISE.ends, [(((0, i), (1, j), (2, i), (3, j)), ((i, 4 + i), (2 + j, 6 + j))) for i, j in SIDES])
        self.assertTrue(self.check(straight))

    def test_none(self):
        for text in ("a, a~", "a", "a | a~", "a * a~", "a + a, a~", "b, a"):
            self.assertFalse(self.check(told(text, [])))
        self.check_stuck(told("a & b, a~ + b~", []), told("a~ + b~, a", []))
        self.check_stuck(told("(a | b) & c", []), told("a, b", []))

    def test_loose_links(self):
        loose = told("a, a~, b, b~", [((), ((0, 1), (2, 3)))])
        self.check_stuck(loose, loose)
        # the both parts, as soon as the first between is taken; what is left at its right half is loose
        self.check_stuck(told("c * c, c~ | b, c~ | b~", [((), ((0, 2), (1, 4), (3, 5)))]),
                         told("b, c, c~, b~", [((), ((0, 3), (1, 2)))]))

    def test_first_or_second(self):
        """The first Wirings on the told way is told: one of the first that is taken, ahead of those of the second."""
        rows = [(((0, 0), (1, 0)), ((0, 2),)), (((0, 1), (1, 1)), ((1, 3),))]
        self.check_stuck(told("a & b, a~, b~", []), told("a~, b~, a", []))
        self.check_stuck(told("(a * a~) & (b * b~)", [(((0, 0),), ((0, 1),)), (((0, 1),), ((2, 3),))]), told("a * a~", [PLAIN]))
        self.check_stuck(told("a & (b * b~), a~", [(((0, 0),), ((0, 3),))]), told("a~, b * b~", []))
        self.check_stuck(told("a & b, a~ + (b~ + a~)", [(((0, 0), (1, 0)), ((0, 2),))]), told("a~ + (b~ + a~), b", []))
        self.assertTrue(self.check(told("a & b, a~ + b~", rows)))


class WithoutOffers(Checks):
    """[17]: without offered forms, wirings come of a deed exactly if there is one and it is sound."""

    def test_facts(self):
        chance = random.Random(210)
        counted = {True: 0, False: 0}
        deeds = [deed for deed in random_deeds(211, 500) if "offered" not in [word for word, _ in fork_list(deed.ends)]]
        for deed in deeds:
            for wiring in every_wiring(deed.ends)[:40]:
                some = Wirings(deed.ends, [wiring])
                counted[self.check(some)] += 1
                self.assertIs(comes_of_deed(some), first_unsound(some) is None)
            if len(every_wiring(deed.ends)) > 1:
                self.assertFalse(comes_of_deed(Wirings(deed.ends, chance.sample(every_wiring(deed.ends), 2))))
        self.assertGreater(min(counted.values()), 30)

    def test_each_wiring_of_a_deed_is_sound(self):
        for deed in random_deeds(212, 150):
            self.assertIsNone(first_unsound(wirings_of(deed)))


class TooGreat(unittest.TestCase):
    def test_too_many_steps(self):
        """Six offers that are taken one after the other tell more than 400 steps, of a deed of 35."""
        offer = ("offer", ("turn", LA, (1, 0)), ("turn", LA, (1, 0)), 1, 1)
        for many, steps in [(4, None), (5, None), (6, "TooMany")]:
            deed = Deed(offer)
            for at in range(many - 1):
                # the last end is the both of all counters; it stands first in what is made next
                deed = Deed(("both", ("turn", deed.steps, turned_first(deed)), offer, 0, 0))
            some = wirings_of(deed)
            self.assertEqual(len(some.wirings), 2 ** many)
            offers_first = Wirings(some.ends, some.wirings)
            self.assertIsNone(stuck_at(offers_first))
            told_steps = all_steps(slow_steps(offers_first))
            self.assertEqual(len(told_steps) > 400, steps == "TooMany")
            if steps:
                self.assertEqual(raised(deed_of, offers_first), ("TooMany", {"most": 400}))
            else:
                self.assertEqual(deed_of(offers_first).size(), len(told_steps))


def turned_first(deed):
    """The order that puts the end with the counters first."""
    at = [k for k, end in enumerate(deed.ends) if end[0] in ("counter", "both")][0]
    return (at,) + tuple(k for k in range(len(deed.ends)) if k != at)


class WrongArguments(unittest.TestCase):
    def test_no_wirings(self):
        for value in [None, 5, [PLAIN], ((A, anti("a")), (PLAIN,)), Deed(LA), "a, a~", ()]:
            for call in (comes_of_deed, stuck_at, deed_of):
                kind, fields = raised(call, value)
                self.assertEqual(kind, "BadValue")
                self.assertIs(fields["value"], value)

    def test_by_name(self):
        some = told("a | a~", [PLAIN])
        self.assertIs(comes_of_deed(wirings=some), True)
        self.assertIsNone(stuck_at(wirings=some))
        self.assertEqual(deed_of(wirings=some).steps, ("between", LA, 0, 1))
        self.assertEqual((some.ends, some.wirings), ((("between", A, anti("a")),), (PLAIN,)))

    def test_names_of_goods(self):
        self.assertEqual(deed_of(told("ab1~, ab1", [PLAIN])).steps, ("turn", link("ab1"), (1, 0)))
        self.assertEqual(deed_of(told("ab1, ab1~", [PLAIN])).steps, link("ab1"))


if __name__ == "__main__":
    unittest.main()
