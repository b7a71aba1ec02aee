"""[36], [37], [81]: all deeds of some ends."""
import random
import unittest

from alldeeds.back import comes_of_deed, deed_of
from alldeeds.deeds import Deed
from alldeeds.formtexts import read_ends
from alldeeds.search import all_wirings, count_unlike, has_deed, least_choices, most_choices, some_deed
from alldeeds.wired import wirings_of
from alldeeds.wirings import Wirings
from making import (anti, deed_sets, forked_deeds, good, has_hand, leaf_list, met, nested, raised, random_deeds,
                    random_form, small_ends, spread_out)

A = good("a")
CALLS = (all_wirings, count_unlike, has_deed, some_deed, least_choices, most_choices)


def ends(text):
    return read_ends(text)


def sides(word, leaves):
    """A form of one word that has these leaves."""
    if len(leaves) == 1:
        return leaves[0]
    half = len(leaves) // 2
    return (word, sides(word, leaves[:half]), sides(word, leaves[half:]))


def counters(text):
    """The both of all these counters, which links all goods."""
    form = anti(text[0])
    for name in text[1:]:
        form = ("both", form, anti(name))
    return form


class Checks(unittest.TestCase):
    def check(self, some):
        """Compares all that is told of the ends with a search that tries all last steps; the number of the sets."""
        right = sorted(deed_sets(some))
        if len(right) > 1000:
            for call in (all_wirings, count_unlike):
                self.assertEqual(raised(call, some), ("TooMany", {"most": 1000}))
        else:
            found = all_wirings(some)
            self.assertIsInstance(found, tuple)
            self.assertTrue(all(isinstance(one, Wirings) and one.ends == tuple(some) for one in found))
            self.assertEqual([one.wirings for one in found], right)
            self.assertEqual(count_unlike(some), len(right))
            self.assertIs(type(count_unlike(some)), int)
        self.assertIs(has_deed(some), bool(right))
        many = [len(rows) for rows in right]
        self.assertEqual(least_choices(some), min(many, default=None))
        self.assertEqual(most_choices(some), max(many, default=None))
        deed = some_deed(some)
        if right:
            self.assert_deed(deed, some)
            self.assertIn(wirings_of(deed).wirings, right)
        else:
            self.assertIsNone(deed)
        return len(right)

    def assert_deed(self, deed, some):
        self.assertIsInstance(deed, Deed)
        self.assertEqual(deed.ends, tuple(some))
        self.assertFalse(has_hand(deed.steps))


class Drawn(Checks):
    def test_ends_of_deeds(self):
        seen = set()
        for deed in random_deeds(331, 250, "ab", 24, 9) + forked_deeds(332, 250, 40, 9):
            if deed.ends not in seen:
                seen.add(deed.ends)
                self.assertGreater(self.check(deed.ends), 0)
        self.assertGreater(len(seen), 200)

    def test_any_ends(self):
        chance = random.Random(333)
        found = [self.check(small_ends(chance, 7, 5)) for _ in range(600)]
        self.assertGreater(len([many for many in found if many]), 15)
        self.assertGreater(found.count(0), 100)

    def test_ends_that_nearly_fit(self):
        """Ends of deeds of which one form is changed, or exchanged with another one."""
        chance = random.Random(334)
        deeds = [deed for deed in random_deeds(335, 300, "a", 24, 8) if len(deed.ends) > 1]
        found = []
        for _ in range(400):
            some = list(chance.choice(deeds).ends)
            some[chance.randrange(len(some))] = random_form(chance, 2, "a")
            if len(leaf_list(some)) <= 9:
                found.append(self.check(some))
        self.assertGreater(len([many for many in found if many]), 40)
        self.assertGreater(len([many for many in found if many > 1]), 15)

    def test_many_forks(self):
        chance = random.Random(336)
        found = []
        while len(found) < 150:
            forms = [sides(chance.choice(["offered", "chosen"]), [chance.choice([A, anti("a")]) for _ in range(chance.randrange(1, 4))])
                     for _ in range(2)]
            forms.append(chance.choice([A, ("both", A, anti("a")), ("chosen", ("both", A, A), A), ("offered", A, ("between", A, anti("a")))]))
            found.append(self.check(forms[:chance.randrange(2, 4)]))
        self.assertGreater(len([many for many in found if many > 2]), 10)

    def test_all_told_come_of_deeds(self):
        for deed in random_deeds(337, 120, "a", 30, 10)[-60:]:
            for one in all_wirings(deed.ends):
                self.assertTrue(comes_of_deed(one))
                self.assertEqual(wirings_of(deed_of(one)), one)
            self.assertIn(wirings_of(deed), list(all_wirings(deed.ends)))


class Facts(Checks):
    def test_between(self):
        """All sets come, one for one, of those with both halves in its place."""
        for text in ["a | a, a~ * a~", "b, (a & b) | a~, b~ + (a * b~)", "a~ | (a | a~), a * a~, a"]:
            some = tuple(ends(text))
            at = [k for k, end in enumerate(some) if end[0] == "between"][0]
            halves = all_wirings(spread_out(some, at))
            self.assertEqual([one.wirings for one in all_wirings(some)], [one.wirings for one in halves])
            self.check(some)

    def test_offered(self):
        """They come of all pairs of one with the left half and one with the right half."""
        for text in ["a & a, a~ + a~", "a & (a & a), a~ + (a~ + a~)", "(a * a) & a, a~ + (a~ | a~)", "a & b, (a~ + b~) + b~"]:
            some = ends(text)
            many = count_unlike([some[0][1]] + some[1:]) * count_unlike([some[0][2]] + some[1:])
            self.assertEqual(count_unlike(some), many)
            self.check(some)

    def test_goods_as_often_as_counters(self):
        for deed in forked_deeds(338, 80):
            for one in all_wirings(deed.ends) if len(leaf_list(deed.ends)) < 9 else []:
                for choice, _ in one.wirings:
                    leaves = [leaf_list(deed.ends)[k][0][0] for k in met(deed.ends, choice)]
                    self.assertEqual(leaves.count("good"), leaves.count("counter"))
        self.assertEqual(self.check(ends("a * a~")), 0)
        self.assertEqual(self.check(ends("a, a~, a | a~")), 0)

    def test_offered_sides_whose_deeds_differ_in_order(self):
        """What both sides of an offer are made of stands in unlike orders in the ends."""
        for text in ["(a * b) & (b * a), a~, b~", "a~, (a * (b * c)) & ((c * a) * b), b~, c~", "(a * b) & ((b * a) & (a * b)), b~, a~",
                     "b~ + a~, (a * b) & (b * a), (a~ + b~) * d, d~"]:
            self.assertGreater(self.check(ends(text)), 0)

    def test_met_on_several_ways(self):
        """A set that can be taken at several ends counts once."""
        self.assertEqual(self.check(ends("a + b, a~ + b~")), 2)
        self.assertEqual(self.check(ends("a * b, a~ * c, b~, c~")), 1)
        self.assertEqual(self.check(ends("(a + a) * (b + b), a~, b~")), 4)
        self.assertEqual(self.check(ends("a + b, a~ + b~, c, c~ * (d + d~)")), 0)


class EmptyHanded(Checks):
    def test_told(self):
        for text in ["a, a", "a * a~", "a", "a~", "a + b", "a, b~", "a & b, a~", "a, a~, b, b~", "a, a~, a, a~", "a * b, a~ * b~",
                     "(a & b) + c, a~ + c", "a | b", "a & a~", "a + a, a", "(a | a~) & a", "a | a, a~ | a~"]:
            self.assertEqual(self.check(ends(text)), 0)
            self.assertEqual([all_wirings(ends(text)), some_deed(ends(text))], [(), None])
            self.assertEqual([has_deed(ends(text)), least_choices(ends(text)), most_choices(ends(text))], [False, None, None])

    def test_a_choice_that_hangs_on_an_offer(self):
        """A chosen side may be taken behind an offer, but not ahead of it."""
        self.assertEqual(self.check(ends("a & b, a~ + b~")), 1)
        self.assertEqual(self.check(ends("a & b, (a~ + b~) * c, c~")), 1)
        self.assertEqual(self.check(ends("(a & b) * c, (a~ + b~) * d, c~ * d~")), 0)
        self.assertEqual(self.check(ends("(a & b) * c, a~ + b~, c~")), 1)
        self.assertEqual(self.check(ends("(a & b) * c, (a~ * d) + (b~ * d), d~, c~")), 1)
        self.assertEqual(self.check(ends("(a & b) * c, (a~ * d) + ((b~ * d) + (a~ * d)), d~, c~")), 2)
        self.assertEqual(self.check(ends("c + ((a & b) * c), (a~ * d) + (b~ * d), d~, c~")), 1)


class Numbers(Checks):
    def test_least_and_most(self):
        for text, least, most in [("a, a~", 1, 1), ("a & a, a~", 2, 2), ("a & b, a~ + b~", 2, 2), ("(a & a) & a, a~", 3, 3),
                                  ("a + (a & a), a~", 1, 2), ("(a & a) + (a & (a & a)), a~", 2, 3), ("a & a, a~ & a~", 4, 4),
                                  ("a & (a + (a & a)), a~", 2, 3), ("a + (a & a), a~ + (a~ & a~)", 1, 4), ("a, a", None, None),
                                  ("(a + (a & a)) * (b + (b & b)), a~, b~", 1, 4), ("(a + (a & a)) & (a + (a & a)), a~", 2, 4),
                                  ("(a + (a & a)) & (b + (a & a)), a~", 3, 4), ("(a + (a & a)) * (b + (b & (b & b))), a~, b~", 1, 6)]:
            self.assertEqual((least_choices(ends(text)), most_choices(ends(text))), (least, most))
            self.check(ends(text))

    def test_many_links(self):
        for many, found in [(1, 1), (2, 2), (3, 6), (4, 24), (5, 120)]:
            some = ends(", ".join(["a"] * many)) + [counters("a" * many)]
            self.assertEqual(count_unlike(some), found)
        some = ends("a, a, a, a, a, b, b, b") + [counters("aaaaabbb")]
        self.assertEqual(count_unlike(some), 720)
        self.assertEqual(len(all_wirings(some)), 720)
        self.assert_deed(some_deed(some), some)

    def test_1000_and_more(self):
        """Each of three offers takes one of so many chosen sides."""
        offer = ends("(x & y) & z")[0]
        for many, count in [((10, 10, 10), 1000), ((7, 11, 13), 1001), ((9, 11, 10), 990), ((1, 1, 1), 1)]:
            some = [offer, sides("chosen", [anti(name) for name, some in zip("xyz", many) for _ in range(some)])]
            if count > 1000:
                self.assertEqual(raised(all_wirings, some), ("TooMany", {"most": 1000}))
                self.assertEqual(raised(count_unlike, some), ("TooMany", {"most": 1000}))
            else:
                found = all_wirings(some)
                self.assertEqual((len(found), count_unlike(some)), (count, count))
                rows = [one.wirings for one in found]
                self.assertEqual(rows, sorted(rows))
                self.assertEqual(len(set(rows)), count)
            self.assertIs(has_deed(some), True)
            self.assertEqual((least_choices(some), most_choices(some)), (3, 3))
            self.assert_deed(some_deed(some), some)

    def test_very_many(self):
        six = ends("a, a, a, a, a, a") + [counters("aaaaaa")]
        self.assertEqual(count_unlike(six), 720)
        for some, many in [(ends("a, a, a, a, a, a, a") + [counters("aaaaaaa")], 1),
                           ([("offered", good("x"), good("x"))] + ends("a, a, a, a, a") + [counters("aaaaax")], 2),
                           ([("offered", ("offered", A, A), ("offered", A, A))] + ends("a, a, a, a") + [counters("aaaaa")], 4)]:
            for call in (all_wirings, count_unlike):
                self.assertEqual(raised(call, some), ("TooMany", {"most": 1000}))
            self.assertIs(has_deed(some), True)
            self.assertEqual((least_choices(some), most_choices(some)), (many, many))
            self.assert_deed(some_deed(some), some)

    def test_empty_handed_beside_very_many(self):
        """Where one part has very many sets and another one none, there is no deed, and nothing is raised."""
        many = ends("a, a, a, a, a") + [counters("aaaaa")]
        for more in ([("both", good("b"), anti("b"))], [good("b")], [good("b"), anti("b")]):
            some = many + more
            self.assertEqual([all_wirings(some), count_unlike(some), has_deed(some), some_deed(some)], [(), 0, False, None])
        offer = ("offered", ("between", A, anti("a")), A)
        self.assertEqual(count_unlike([offer] + many), 0)


class Great(Checks):
    """Ends at the limits of [37]: each choice meets eight pairs of leaves, of one good at most five."""

    def test_five_of_one_good(self):
        for some in [ends("a, a, a, a, a, (a~ * a~) * ((a~ * a~) * a~)"), ends("a | a, a | a, a, a~ * a~, (a~ * a~) * a~"),
                     ends("a * a, a * a, a * (b | b~), a~ | a~, a~ | a~, a~"),
                     ends("(a & a) * a, (a + a) * a, a, a~ | a~, a~, a~ | a~"),
                     ends("a & a, a + a, a * a, a~ | a~, a~ + a~, a~ & a~")]:
            for one in (has_deed, least_choices, most_choices):
                one(some)
            deed = some_deed(some)
            if deed is not None:
                self.assert_deed(deed, some)

    def test_eight_pairs(self):
        names = "abcdefgh"
        for word in ("both", "between"):
            form = sides(word, [good(name) for name in names])
            some = [form] + [anti(name) for name in names]
            self.assertEqual(count_unlike(some), 1 if word == "both" else 0)
        self.check(ends("(a & b) * (c + d), (e | f) * g, h, a~ + b~, c~, e~ * f~, g~ * h~"))
        self.check(ends("(a & b) * (c + d), (e | f) * g, h, a~ + b~, c~, e~ | f~, g~ * h~"))
        self.check(ends("(a & b) * (c + d), e | (f * g), a~ + b~, c~ * h, e~ * f~, g~, h~"))
        self.check(ends("a * b, c * d, a~ | c~, b~ * e, d~ | e~"))

    def test_many_forks_that_nothing_hangs_on(self):
        """Chosen forms with nothing but leaves within, of which one side each must be found."""
        chosen = sides("chosen", [A, good("b"), good("c"), anti("a"), A])
        other = sides("chosen", [anti("b"), anti("c"), anti("a")])
        self.assertEqual(self.check([chosen, other]), 4)
        self.assertEqual(self.check([chosen, ("both", other, sides("chosen", [A, good("b")])), other]), 8)
        many = [A, good("b"), good("c"), good("d")] * 4
        some = [sides("chosen", many), sides("chosen", [anti(form[1]) for form in many])]
        self.assertEqual(count_unlike(some), 64)
        self.assert_deed(some_deed(some), some)

    def test_a_hard_one(self):
        """Three offers, and chosen forms that may be taken ahead of them or behind."""
        some = ends("(a * b) + c, (a~ * b) + c, (b~ * c) + a, (c~ * a) + b, (a * c~) + b~, (b~ * a~) + c~, a~ * b, (a | b~) + a~")
        for call in (has_deed, least_choices, most_choices):
            call(some)
        some = ends("a & (b + c), (a~ + b~) & (a~ + c~), (b & c) + a, a~ + (b~ * (c + c~))")
        self.assertEqual(has_deed(some), some_deed(some) is not None)


class WrongArguments(unittest.TestCase):
    def test_no_ends(self):
        for some in [None, [], (), "a", A, [A, None], [A] * 41, {0: A}, [["good", "a"]], 5, True, [nested(A, 13)], Deed(("link", "a"))]:
            for call in CALLS:
                kind, fields = raised(call, some)
                self.assertEqual(kind, "BadValue")
                self.assertIs(fields["value"], some)

    def test_lists_and_tuples(self):
        some = ends("a & b, a~ + b~")
        for call in CALLS:
            for told in (some, tuple(some)):
                one, other = call(told), call(ends=told)
                self.assertEqual(one, other)
        self.assertEqual(some, ends("a & b, a~ + b~"))

    def test_the_search_of_the_tests(self):
        """The plain search finds what is told in the document."""
        for text, many in [("a, a~", 1), ("a, a", 0), ("a * b, a~, b~", 1), ("(a | a~) | (a * a~)", 1), ("a, a, a~ * a~", 2),
                           ("a & a, a~", 1), ("a, a~ + a~", 2), ("a & a, a~ + a~", 4)]:
            self.assertEqual(len(deed_sets(ends(text))), many)


if __name__ == "__main__":
    unittest.main()
