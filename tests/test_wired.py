"""[13], [68]: the wirings of a deed."""
import itertools
import random
import unittest

from alldeeds.deeds import Deed, plain_deed
from alldeeds.formtexts import read_form
from alldeeds.wired import wirings_of
from alldeeds.wirings import Wirings
from making import (all_choices, anti, counter_of, deed_meaning, every_wiring, fork_list, good, leaf_list, link, raised,
                    random_deeds, random_form, wirings_meaning)

A, B = good("a"), good("b")
LA, LB = link("a"), link("b")
PAIR = ("both", LA, LB, 0, 0)


def wirings(steps):
    return wirings_of(Deed(steps)).wirings


def identity_wirings(form):
    """The wirings of the plain deed of a form: each leaf is linked with its counter."""
    many, forks = len(leaf_list([form])), len(fork_list([form]))
    told = []
    for choice in all_choices([form]):
        numbers = [k for k, (_, above) in enumerate(leaf_list([form])) if set(above) <= set(choice)]
        both = choice + tuple((fork + forks, side) for fork, side in choice)
        told.append((both, tuple((k, k + many) for k in numbers)))
    return tuple(sorted(told))


def fan(many):
    """Steps with the ends a~ and a form of so many offered goods a, and as many wirings (of one, just the link)."""
    if many == 1:
        return ("turn", LA, (1, 0))
    return ("offer", fan(many // 2), fan(many - many // 2), 1, 1)


def cofan(many):
    """The same with the ends a and a form of so many offered counters."""
    if many == 1:
        return LA
    return ("offer", cofan(many // 2), cofan(many - many // 2), 1, 1)


def rows(parts):
    """Both of the last ends of fans or cofans, side by side, as the last end; the wirings multiply."""
    steps = parts[0]
    for part in parts[1:]:
        steps = ("both", steps, part, len(Deed(steps).ends) - 1, 1)
    return steps


def one_end(steps):
    """The steps within betweens that leave one end."""
    while len(Deed(steps).ends) > 1:
        steps = ("between", steps, 0, 1)
    return steps


def lefts(many):
    """Steps of which the last end is the counter of that of rows of so many fans of two, with one wiring."""
    part = ("choose", LA, 1, 0, anti("a"))
    steps = part
    for _ in range(many - 1):
        steps = ("both", steps, part, len(Deed(steps).ends) - 1 if steps != part else 0, 0)
    steps = ("turn", steps, (many,) + tuple(range(many)))
    steps = ("between", steps, 1, 2)
    for _ in range(many - 2):
        steps = ("between", steps, len(Deed(steps).ends) - 1, 1)
    return steps


class Steps(unittest.TestCase):
    def test_link(self):
        self.assertEqual(wirings(LA), (((), ((0, 1),)),))
        self.assertIsInstance(wirings_of(deed=Deed(LA)), Wirings)
        self.assertEqual(wirings_of(Deed(LA)).ends, (A, anti("a")))

    def test_both(self):
        self.assertEqual(wirings(PAIR), (((), ((0, 2), (1, 3))),))
        self.assertEqual(wirings(("both", LA, LB, 1, 0)), (((), ((0, 2), (1, 3))),))
        offer = ("offer", LA, LA, 0, 0)
        told = wirings(("both", ("turn", offer, (1, 0)), ("offer", LB, LB, 1, 1), 1, 1))
        self.assertEqual(len(told), 4)
        # ends: a & a, b, a~ * (b~ & b~); leaves: a 0, a 1, b 2, a~ 3, b~ 4, b~ 5
        self.assertEqual(told, tuple((((0, s), (1, t)), ((s, 3), (2, 4 + t))) for s in (0, 1) for t in (0, 1)))

    def test_between_and_turn(self):
        # a~, b~, a * b between 0 and 2: b~, a~ | (a * b)
        self.assertEqual(wirings(("between", PAIR, 0, 2)), (((), ((0, 3), (1, 2))),))
        self.assertEqual(wirings(("turn", PAIR, (2, 1, 0))), (((), ((0, 3), (1, 2))),))
        offer = ("offer", LA, LA, 0, 0)
        self.assertEqual(wirings(("turn", offer, (1, 0))), ((((0, 0),), ((0, 2),)), (((0, 1),), ((1, 2),))))
        two = ("both", ("turn", offer, (1, 0)), ("choose", LB, 1, 0, A), 1, 1)
        # a & a, b, a~ * (b~ + a): as it is, and with the forks in another order
        self.assertEqual(wirings(two), ((((0, 0), (1, 0)), ((0, 3), (2, 4))), (((0, 1), (1, 0)), ((1, 3), (2, 4)))))
        turned = ("turn", two, (2, 1, 0))
        self.assertEqual(wirings(turned), ((((0, 0), (1, 0)), ((0, 4), (1, 3))), (((0, 0), (1, 1)), ((0, 5), (1, 3)))))

    def test_offer_and_choose(self):
        self.assertEqual(wirings(("offer", LA, LA, 1, 1)), ((((0, 0),), ((0, 1),)), (((0, 1),), ((0, 2),))))
        self.assertEqual(wirings(("choose", LA, 0, 0, ("chosen", B, B))), ((((0, 0),), ((0, 1),)),))
        self.assertEqual(wirings(("choose", LA, 1, 1, ("offered", B, B))), ((((0, 1),), ((0, 3),)),))
        nested = ("choose", ("offer", LA, LA, 1, 1), 1, 1, ("both", ("chosen", B, B), A))
        # a, ((b + b) * a) + (a~ & a~): fork 0 is new, fork 1 not met, fork 2 the offered one
        self.assertEqual(wirings(nested), ((((0, 1), (2, 0)), ((0, 4),)), (((0, 1), (2, 1)), ((0, 5),))))
        nested = ("choose", ("offer", LA, LA, 1, 1), 1, 0, ("both", ("chosen", B, B), A))
        self.assertEqual(wirings(nested), ((((0, 0), (1, 0)), ((0, 1),)), (((0, 0), (1, 1)), ((0, 2),))))

    def test_offer_of_unlike_orders(self):
        """The rest of the two deeds stands in one order; the links of the other one are put over it."""
        crossed = ("turn", ("both", LA, LA, 0, 0), (1, 0, 2))
        straight = ("both", LA, LA, 0, 0)
        self.assertEqual(wirings(("offer", straight, crossed, 2, 2)),
                         ((((0, 0),), ((0, 2), (1, 3))), (((0, 1),), ((0, 5), (1, 4)))))
        whole = ("between", LA, 0, 1)
        self.assertEqual(wirings(("offer", whole, ("between", LB, 1, 0), 0, 0)), ((((0, 0),), ((0, 1),)), (((0, 1),), ((2, 3),))))

    def test_offer_below_offer(self):
        offer = ("offer", LA, LA, 0, 0)
        self.assertEqual(wirings(("offer", offer, offer, 1, 1)), tuple(
            (((0, s), (1 + s, t)), ((0, 1 + 2 * s + t),)) for s in (0, 1) for t in (0, 1)))
        # the rest a & a of both deeds is one end, and its fork one fork
        self.assertEqual(wirings(("offer", offer, offer, 0, 0)), tuple(
            (((0, s), (1, t)), ((s, 2 + t),)) for s in (0, 1) for t in (0, 1)))

    def test_hand_over_a_good(self):
        self.assertEqual(wirings(("hand", LA, LA, 0, 1)), (((), ((0, 1),)),))
        steps = LA
        for _ in range(40):
            steps = ("hand", steps, LA, 1, 0)
        self.assertEqual(wirings(steps), (((), ((0, 1),)),))

    def test_hand_over_pairs(self):
        between = ("between", ("both", LA, LB, 0, 0), 0, 1)
        self.assertEqual(wirings(("hand", PAIR, between, 2, 1)), (((), ((0, 2), (1, 3))),))
        crossed = ("turn", ("between", ("both", LA, LA, 0, 0), 1, 0), (1, 0))
        # a~ | a~ with the second one first, a * a
        self.assertEqual(wirings(crossed), (((), ((0, 3), (1, 2))),))
        self.assertEqual(wirings(("hand", ("both", LA, LA, 0, 0), crossed, 2, 0)), (((), ((0, 3), (1, 2))),))
        twice = ("hand", ("hand", ("both", LA, LA, 0, 0), crossed, 2, 0), crossed, 2, 0)
        self.assertEqual(wirings(twice), (((), ((0, 2), (1, 3))),))

    def test_hand_over_forks(self):
        offer = ("offer", ("choose", LA, 1, 0, anti("b")), ("choose", LB, 1, 1, anti("a")), 0, 0)
        self.assertEqual(Deed(offer).ends, (("chosen", anti("a"), anti("b")), ("offered", A, B)))
        for side, chosen in [(0, ("choose", LA, 1, 0, anti("b"))), (1, ("choose", LB, 1, 1, anti("a")))]:
            told = Deed(("hand", offer, chosen, 1, 1))
            self.assertEqual(told.ends, (("chosen", anti("a"), anti("b")), (A, B)[side]))
            self.assertEqual(wirings_of(told).wirings, ((((0, side),), ((side, 2),)),))
            back = Deed(("hand", chosen, offer, 1, 1))
            self.assertEqual(wirings_of(back).wirings, ((((0, side),), ((0, 1 + side),)),))

    def test_links_that_go_over_and_back(self):
        """A link comes out behind several leaves that are handed on."""
        step = ("both", LA, LA, 1, 0)
        chain = ("both", LA, step, 1, 0)
        self.assertEqual(Deed(chain).ends, (A, anti("a"), ("both", anti("a"), A), ("both", anti("a"), A)))
        closed = ("between", chain, 3, 2)
        form = read_form("(a | a~) * (a | a~)")
        self.assertEqual(Deed(closed).ends, (A, anti("a"), counter_of(form)))
        loops = ("both", ("between", LA, 0, 1), ("between", LA, 0, 1), 0, 0)
        self.assertEqual(Deed(loops).ends, (form,))
        for told in [Deed(("hand", closed, loops, 2, 0)), Deed(("hand", loops, closed, 0, 2))]:
            self.assertEqual(told.ends, (A, anti("a")))
            self.assertEqual(wirings_of(told).wirings, (((), ((0, 1),)),))

    def test_plain_deeds(self):
        chance = random.Random(51)
        for _ in range(120):
            form = random_form(chance, 3)
            self.assertEqual(wirings_of(plain_deed(form)).wirings, identity_wirings(form))


class Meaning(unittest.TestCase):
    def test_random_deeds(self):
        hands = 0
        for seed in range(52, 58):
            for deed in random_deeds(seed, 100):
                hands += str(deed.steps).count("'hand'")
                told = wirings_of(deed)
                self.assertEqual(told.ends, deed.ends)
                self.assertEqual(wirings_meaning(deed.ends, told.wirings), deed_meaning(deed))
        self.assertGreater(hands, 300)

    def test_facts(self):
        for deed in random_deeds(58, 100):
            told = wirings_of(deed).wirings
            self.assertTrue(told)
            choices = [choice for choice, _ in told]
            self.assertEqual(len(set(choices)), len(choices))
            offered = [k for k, (word, _) in enumerate(fork_list(deed.ends)) if word == "offered"]
            for sides in itertools.product((0, 1), repeat=len(offered)):
                asked = dict(zip(offered, sides))
                fitting = [c for c in choices if all(asked.get(fork, side) == side for fork, side in c)]
                self.assertEqual(len(fitting), 1)

    def test_hands_to_plain_deeds(self):
        """Handed on to the plain deed of an end, a deed keeps its wirings, this end now the last one."""
        chance = random.Random(59)
        for deed in random_deeds(60, 100):
            at = chance.randrange(len(deed.ends))
            form = deed.ends[at]
            order = tuple(k for k in range(len(deed.ends)) if k != at) + (at,)
            turned = wirings_of(Deed(("turn", deed.steps, order)))
            there = Deed(("hand", deed.steps, plain_deed(form).steps, at, 1))
            self.assertEqual(wirings_of(there), turned)
            again = ("hand", there.steps, plain_deed(form).steps, len(deed.ends) - 1, 1)
            self.assertEqual(wirings_of(Deed(again)), turned)
            back = Deed(("hand", plain_deed(form).steps, deed.steps, 1, at))
            first = (len(deed.ends) - 1,) + tuple(range(len(deed.ends) - 1))
            self.assertEqual(wirings_of(back), wirings_of(Deed(("turn", ("turn", deed.steps, order), first))))

    def test_hands_over_great_forms(self):
        chance = random.Random(61)
        for _ in range(40):
            form = ("both", random_form(chance, 3), ("offered", random_form(chance, 2), random_form(chance, 2)))
            if len(leaf_list([form])) > 14 or len(all_choices([form])) > 40:
                continue
            plain = plain_deed(form).steps
            four = ("hand", ("hand", plain, plain, 1, 0), ("hand", plain, plain, 1, 0), 1, 0)
            self.assertEqual(wirings_of(Deed(four)).wirings, identity_wirings(form))


class Bounds(unittest.TestCase):
    def test_the_deeds_of_these_tests(self):
        self.assertEqual(Deed(fan(3)).ends, (anti("a"), ("offered", A, ("offered", A, A))))
        self.assertEqual(Deed(cofan(2)).ends, (A, ("offered", anti("a"), anti("a"))))
        self.assertEqual(wirings(fan(2)), ((((0, 0),), ((0, 1),)), (((0, 1),), ((0, 2),))))
        for many in range(1, 14):
            self.assertEqual((len(wirings(fan(many))), len(wirings(cofan(many)))), (many, many))
        self.assertEqual(len(Deed(one_end(rows([fan(3), fan(2)]))).ends), 1)

    def test_both(self):
        for many, parts in [(2000, [5, 5, 5, 4, 4]), (2000, [5, 5, 5, 2, 2, 2, 2]), (1024, [2] * 10)]:
            told = wirings(rows([fan(part) for part in parts]))
            self.assertEqual(len(told), many)
            self.assertEqual(list(told), sorted(set(told)))
        for parts in [[2, 7, 11, 13], [2] * 11, [3, 3, 9, 5, 5], [6, 6, 6, 6, 6]]:
            self.assertEqual(raised(wirings_of, Deed(rows([fan(part) for part in parts]))), ("TooMany", {"most": 2000}))

    def test_offer(self):
        thousand = rows([fan(10), fan(10), fan(10)])
        whole = Deed(("offer", thousand, thousand, 0, 0))
        self.assertEqual(len(wirings_of(whole).wirings), 2000)
        loop = ("between", LA, 0, 1)
        many = one_end(rows([fan(part) for part in (5, 5, 5, 4, 4)]))
        self.assertEqual(len(wirings(many)), 2000)
        self.assertEqual(raised(wirings_of, Deed(("offer", many, loop, 0, 0))), ("TooMany", {"most": 2000}))
        self.assertEqual(raised(wirings_of, Deed(("offer", loop, many, 0, 0))), ("TooMany", {"most": 2000}))
        fewer = one_end(rows([fan(part) for part in (5, 5, 4, 4, 4)]))
        self.assertEqual(len(wirings(("offer", fewer, loop, 0, 0))), 1601)

    def test_hand(self):
        """Neither of the two deeds has too many wirings; their hand on may have."""
        one, other = rows([fan(5), fan(5), fan(2)]), rows([cofan(5), cofan(4), cofan(2)])
        self.assertEqual(len(wirings(("hand", one, other, 0, 0))), 2000)
        one, other = rows([fan(13), fan(2)]), rows([cofan(11), cofan(7)])
        self.assertEqual(raised(wirings_of, Deed(("hand", one, other, 0, 0))), ("TooMany", {"most": 2000}))

    def test_hands_in_which_few_fit(self):
        """Each wiring of the one deed fits one of the other, so there are no more than each has."""
        one = rows([fan(10), fan(10), fan(10)])
        form = Deed(one).ends[-1]
        self.assertEqual(raised(plain_deed, form), ("TooMany", {"most": 40}))
        small = rows([fan(4), fan(4), fan(4)])
        plain = plain_deed(Deed(small).ends[-1])
        self.assertEqual(len(wirings_of(plain).wirings), 64)
        thrice = Deed(("hand", ("hand", plain.steps, plain.steps, 1, 0), plain.steps, 1, 0))
        self.assertEqual(wirings_of(thrice), wirings_of(plain))

    def test_too_many_within_alone(self):
        for many in (10, 11):
            one, other = rows([fan(2)] * many), lefts(many)
            self.assertEqual(len(wirings(other)), 1)
            last = len(Deed(one).ends) - 1
            told = Deed(("hand", one, other, last, 1))
            self.assertEqual(fork_list(told.ends), [])
            if many == 10:
                self.assertEqual(len(wirings(one)), 1024)
                self.assertEqual(len(wirings_of(told).wirings), 1)
            else:
                self.assertEqual(raised(wirings_of, told), ("TooMany", {"most": 2000}))

    def test_choices_that_are_not_met_do_not_count(self):
        steps = LA
        for _ in range(11):
            steps = ("choose", steps, 1, 0, ("offered", A, A))
        self.assertEqual(len(fork_list(Deed(steps).ends)), 22)
        self.assertEqual(len(wirings(steps)), 1)

    def test_no_deed(self):
        for value in [None, LA, 5, "link a", Wirings([A, anti("a")], [((), ((0, 1),))])]:
            kind, fields = raised(wirings_of, value)
            self.assertEqual(kind, "BadValue")
            self.assertIs(fields["value"], value)


class Every(unittest.TestCase):
    def test_wirings_are_wirings_of_the_ends(self):
        for deed in random_deeds(62, 80, most_leaves=8):
            self.assertLessEqual(set(wirings_of(deed).wirings), set(every_wiring(deed.ends)))


if __name__ == "__main__":
    unittest.main()
