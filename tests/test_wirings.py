"""[12], [66]: wirings of ends, and the sets of them."""
import itertools
import random
import unittest

from alldeeds.deeds import Deed
from alldeeds.formtexts import read_ends
from alldeeds.wired import wirings_of
from alldeeds.wirings import Wirings, choices_of, links_at, turned_wirings
from making import (all_choices, anti, bushy, entry_at, every_wiring, fork_list, good, leaf_list, link, nested, raised,
                    random_deeds, random_form, wirings_meaning)

A, B = good("a"), good("b")
PLAIN = ((), ((0, 1),))
ENDS = read_ends("a & b, a~ + b~, c, c~")
FIRST = (((0, 0), (1, 0)), ((0, 2), (4, 5)))
SECOND = (((0, 1), (1, 1)), ((1, 3), (4, 5)))


def many_ends(seed, many):
    """Lists of small ends that have wirings."""
    chance = random.Random(seed)
    found = []
    while len(found) < many:
        ends = [random_form(chance, 2) for _ in range(chance.randrange(1, 4))]
        if len(leaf_list(ends)) <= 8 and len(fork_list(ends)) <= 4 and every_wiring(ends):
            found.append(ends)
    return found


def bad_wirings():
    """Values that are no wirings of ENDS."""
    deep = ()
    for _ in range(500):
        deep = (deep,)
    choice, links = FIRST
    return [
        None, True, 5, "", "wiring", (), [], {}, deep, (choice,), (choice, links, ()), [choice, links], (links, choice),
        (list(choice), links), (choice, list(links)), (([0, 0], (1, 0)), links), (choice, ([0, 2], (4, 5))),
        # choices that are none
        ((), links), (((0, 0),), links), (((1, 0), (0, 0)), links), (((0, 0), (1, 2)), links), (((0, False), (1, 0)), links),
        (((False, 0), (1, 0)), links), (((0, 0), (True, 0)), links), (((0, 0), (1, 0), (2, 0)), links), (None, links),
        (((0, 0), (0, 0), (1, 0)), links), (((0, 0, 0), (1, 0)), links), (deep, links),
        # links that do not fit
        (choice, ()), (choice, ((0, 2),)), (choice, ((4, 5),)), (choice, ((4, 5), (0, 2))), (choice, ((0, 2), (5, 4))),
        (choice, ((2, 0), (4, 5))), (choice, ((0, 2), (4, 5), (4, 5))), (choice, ((0, 2), (0, 2), (4, 5))),
        (choice, ((0, 3), (4, 5))), (choice, ((0, 4), (2, 5))), (choice, ((0, 5), (2, 4))), (choice, ((1, 2), (4, 5))),
        (choice, ((1, 3), (4, 5))), (choice, ((0, 2), (1, 3), (4, 5))), (choice, ((0, 2), (4, 6))),
        (choice, ((-6, 2), (4, 5))), (choice, ((False, 2), (4, 5))), (choice, ((0, 2), (4, 5, 6))), (choice, ((0, 2), (4,))),
        (choice, ((0, 2), 4)), (choice, (0, 2)), (choice, ((0, 2), ("4", "5"))), (choice, ((0, 2), (4, 5.0))), (choice, None),
        (choice, ((0, 2), None)), (choice, deep), (choice, (deep,)), (((0, 0), (1, 1)), links), (((0, 1), (1, 0)), links),
        (((0, 1), (1, 1)), links), (choice, ((0, 0), (4, 5))), (choice, ((0, 2), (4, 4))), (choice, ((0, 2), (0, 5), (4, 5))),
    ]


class Making(unittest.TestCase):
    def test_ascending_and_once(self):
        for told in itertools.permutations([FIRST, SECOND, FIRST]):
            for wirings in (list(told), told):
                for ends in (ENDS, tuple(ENDS)):
                    made = Wirings(ends, wirings)
                    self.assertEqual(made.ends, tuple(ENDS))
                    self.assertEqual(made.wirings, (FIRST, SECOND))
                    self.assertIsInstance(made.ends, tuple)
                    self.assertIsInstance(made.wirings, tuple)

    def test_by_name(self):
        self.assertEqual(Wirings(wirings=[FIRST], ends=ENDS).wirings, (FIRST,))
        self.assertEqual(choices_of(wirings=Wirings(ENDS, [FIRST])), (FIRST[0],))
        self.assertEqual(links_at(wirings=Wirings(ENDS, [FIRST]), choice=FIRST[0]), (FIRST[1],))
        self.assertEqual(turned_wirings(wirings=Wirings(ENDS, [FIRST]), order=(0, 1, 2, 3)).wirings, (FIRST,))

    def test_no_wirings(self):
        for wirings in ([], ()):
            made = Wirings([("both", A, B)], wirings)
            self.assertEqual((made.ends, made.wirings), ((("both", A, B),), ()))
            self.assertEqual(choices_of(made), ())
            self.assertEqual(links_at(made, ()), ())

    def test_lists_are_copied(self):
        ends, wirings = list(ENDS), [SECOND, FIRST]
        made = Wirings(ends, wirings)
        self.assertEqual((ends, wirings), (list(ENDS), [SECOND, FIRST]))
        ends.append(A)
        ends[0] = B
        wirings.clear()
        self.assertEqual((made.ends, made.wirings), (tuple(ENDS), (FIRST, SECOND)))

    def test_several_of_one_choice(self):
        ends = [A, A, anti("a"), anti("a")]
        wirings = [((), ((0, 3), (1, 2))), ((), ((0, 2), (1, 3)))]
        made = Wirings(ends, wirings)
        self.assertEqual(made.wirings, tuple(wirings[::-1]))
        self.assertEqual(choices_of(made), ((),))
        self.assertEqual(links_at(made, ()), (((0, 2), (1, 3)), ((0, 3), (1, 2))))

    def test_all_wirings_of_small_ends(self):
        """Of all that could be a wiring just those are taken that are one."""
        for ends in many_ends(31, 60):
            right = every_wiring(ends)
            made = Wirings(ends, right[::-1] + right)
            self.assertEqual(made.wirings, tuple(right))
            pairs = list(itertools.combinations(range(len(leaf_list(ends))), 2))
            wirings = set(right)
            chance = random.Random(len(right))
            for choice in all_choices(ends)[:4]:
                for many in (1, 2, 3):
                    for links in chance.sample(list(itertools.combinations(pairs, many)), min(
                            10, len(list(itertools.combinations(pairs, many))))):
                        value = (choice, links)
                        if value in wirings:
                            self.assertEqual(Wirings(ends, [value]).wirings, (value,))
                        else:
                            self.assertEqual(raised(Wirings, ends, [value]), ("BadValue", {"value": value}))

    def test_equality(self):
        one = Wirings(ENDS, [FIRST, SECOND])
        self.assertTrue(one == Wirings(tuple(ENDS), (SECOND, FIRST, SECOND)))
        self.assertFalse(one != Wirings(ENDS, [FIRST, SECOND]))
        self.assertFalse(one == Wirings(ENDS, [FIRST]))
        self.assertTrue(one != Wirings(ENDS, []))
        self.assertFalse(Wirings([A, anti("a")], [PLAIN]) == Wirings([B, anti("b")], [PLAIN]))
        self.assertFalse(Wirings([A, anti("a")], [PLAIN]) == Wirings([anti("a"), A], [PLAIN]))
        self.assertFalse(Wirings([A], []) == Wirings([B], []))
        for other in (None, one.wirings, (one.ends, one.wirings), Deed(link("a")), Wirings):
            self.assertFalse(one == other)
            self.assertTrue(one != other)


class WrongArguments(unittest.TestCase):
    def test_wrong_ends(self):
        for ends in [None, "a", [], (), A, [A] * 41, [nested(A, 13)], [bushy(6)], [A, "a"], [["good", "a"]], {0: A}]:
            for wirings in ([], None, [5]):
                kind, fields = raised(Wirings, ends, wirings)
                self.assertEqual(kind, "BadValue")
                self.assertIs(fields["value"], ends)

    def test_no_lists(self):
        for wirings in [None, True, 5, "wirings", {FIRST: 1}, {FIRST}, Wirings(ENDS, [FIRST]), range(0)]:
            kind, fields = raised(Wirings, ENDS, wirings)
            self.assertEqual(kind, "BadValue")
            self.assertIs(fields["value"], wirings)

    def test_wrong_wirings(self):
        for number, value in enumerate(bad_wirings()):
            with self.subTest(number=number):
                for wirings in ([value], (FIRST, value, SECOND), [SECOND, FIRST, value, None, 5]):
                    kind, fields = raised(Wirings, ENDS, wirings)
                    self.assertEqual(kind, "BadValue")
                    self.assertIs(fields["value"], value)

    def test_a_leaf_in_two_links(self):
        for text, links in [("a, a~, a", ((0, 1), (1, 2))), ("a, a, a~", ((0, 2), (1, 2))), ("a, a~, a~", ((0, 1), (0, 2))),
                            ("a, a~, a, a~", ((0, 1), (1, 2), (2, 3)))]:
            self.assertEqual(raised(Wirings, read_ends(text), [((), links)]), ("BadValue", {"value": ((), links)}))

    def test_forty_leaves(self):
        ends = [A] * 20 + [anti("a")] * 20
        wiring = ((), tuple((k, 39 - k) for k in range(20)))
        self.assertEqual(Wirings(ends, [wiring]).wirings, (wiring,))
        wrong = ((), tuple((k, 39 - k) for k in range(19)))
        self.assertEqual(raised(Wirings, ends, [wrong]), ("BadValue", {"value": wrong}))

    def test_no_wirings_objects(self):
        for value in [None, 5, ENDS, [FIRST], (ENDS, [FIRST]), Deed(link("a"))]:
            for call, rest in [(choices_of, ()), (links_at, (None,)), (turned_wirings, (None,))]:
                kind, fields = raised(call, value, *rest)
                self.assertEqual(kind, "BadValue")
                self.assertIs(fields["value"], value)


class Asking(unittest.TestCase):
    def test_choices_and_links(self):
        for ends in many_ends(32, 60):
            told = random.Random(len(ends)).sample(every_wiring(ends), min(6, len(every_wiring(ends))))
            made = Wirings(ends, told)
            self.assertEqual(choices_of(made), tuple(sorted({choice for choice, _ in told})))
            for choice in all_choices(ends):
                self.assertEqual(links_at(made, choice), tuple(sorted(links for c, links in told if c == choice)))

    def test_no_choices(self):
        made = Wirings(ENDS, [FIRST])
        self.assertEqual(links_at(made, SECOND[0]), ())
        for choice in [(), None, ((0, 0),), [(0, 0), (1, 0)], ((0, 0), (1, 2)), ((0, False), (1, 0)), ((1, 0), (0, 0)),
                       ((0, 0), (1, 0), (2, 0)), 0, "", {}]:
            kind, fields = raised(links_at, made, choice)
            self.assertEqual(kind, "BadValue")
            self.assertIs(fields["value"], choice)


class Turning(unittest.TestCase):
    def test_orders(self):
        ends = read_ends("a & (b + c), a~ * b, (b~ + d) | e, f & f")
        made = Wirings(ends, [])
        for order in itertools.permutations(range(4)):
            self.assertEqual(turned_wirings(made, order).ends, tuple(ends[k] for k in order))
        self.assertEqual(turned_wirings(made, [3, 2, 1, 0]), turned_wirings(made, (3, 2, 1, 0)))

    def test_as_a_turn_of_the_deed(self):
        chance = random.Random(33)
        for deed in random_deeds(34, 120):
            order = list(range(len(deed.ends)))
            chance.shuffle(order)
            turned = wirings_of(Deed(("turn", deed.steps, tuple(order))))
            self.assertEqual(turned_wirings(wirings_of(deed), order), turned)
            back = [order.index(k) for k in range(len(order))]
            self.assertEqual(turned_wirings(turned, back), wirings_of(deed))

    def test_entries_are_turned(self):
        chance = random.Random(35)
        for ends in many_ends(36, 80):
            told = chance.sample(every_wiring(ends), min(5, len(every_wiring(ends))))
            order = list(range(len(ends)))
            chance.shuffle(order)
            turned = turned_wirings(Wirings(ends, told), tuple(order))
            self.assertEqual(len(turned.wirings), len(told))
            right = {tuple(entry[k] for k in order) for entry in wirings_meaning(ends, told)}
            self.assertEqual(wirings_meaning(turned.ends, turned.wirings), right)

    def test_wrong_orders(self):
        made = Wirings(ENDS, [FIRST])
        for order in [None, 0, "0123", (), (0, 1, 2), (0, 1, 2, 3, 3), (0, 1, 2, 2), (1, 2, 3, 4), (-1, 0, 1, 2), (0, 1, 2, None),
                      (False, True, 2, 3), [0, True, 2, 3], (0, 1, 2, 3.0), {0: 0, 1: 1, 2: 2, 3: 3}, range(4), [[0], 1, 2, 3],
                      ("0", "1", "2", "3")]:
            kind, fields = raised(turned_wirings, made, order)
            self.assertEqual(kind, "BadValue")
            self.assertIs(fields["value"], order)
        self.assertEqual(made.wirings, (FIRST,))


class Helpers(unittest.TestCase):
    def test_entries_of_these_tests(self):
        counts = [0, 0]
        entry = tuple(entry_at(end, {0: 1, 1: 1}, {1: 1, 3: 1, 4: 0, 5: 0}, counts) for end in ENDS)
        self.assertEqual(entry, ((1, 1), (1, 1), 0, 0))


if __name__ == "__main__":
    unittest.main()
