"""[34], [80]: single Wirings, told back from their meaning over two things."""
import itertools
import random
import unittest

from alldeeds.deeds import Deed
from alldeeds.formtexts import read_ends
from alldeeds.meanings import meaning_of
from alldeeds.toldback import is_single, told_back
from alldeeds.wired import wirings_of
from alldeeds.wirings import Wirings
from making import (all_choices, anti, every_wiring, form_entries, forked_deeds, good, handing_deeds, link, names_in, raised,
                    random_deeds, small_ends, told, wiring_entries)

A = good("a")
LA = link("a")
PLAIN = ((), ((0, 1),))
PICK = told("a & a, a~", [(((0, 0),), ((0, 2),)), (((0, 1),), ((1, 2),))])
SHIFTS = told("a, a, a, a~, a~, a~", [((), ((0, 3 + k), (1, 3 + (1 + k) % 3), (2, 3 + (2 + k) % 3))) for k in range(3)])


def two_things(wirings):
    return meaning_of(wirings, {name: 2 for end in wirings.ends for name in names_in(end)})


def drawn_single(chance, most_leaves=8):
    """A single Wirings of drawn ends: for some choices one wiring each."""
    while True:
        ends = small_ends(chance, most_leaves, 5, "ab" if chance.random() < 0.3 else "a")
        by_choice = {}
        for wiring in every_wiring(ends):
            by_choice.setdefault(wiring[0], []).append(wiring)
        if by_choice:
            some = chance.sample(sorted(by_choice), chance.randrange(1, len(by_choice) + 1))
            return Wirings(ends, [chance.choice(by_choice[choice]) for choice in some])


def slow_told_back(ends, entries, every):
    """The single Wirings of the ends, of which these are all wirings, with just these entries; all are tried."""
    by_choice = {}
    for wiring in every:
        by_choice.setdefault(wiring[0], [None]).append(wiring)
    for rows in itertools.product(*by_choice.values()):
        rows = [row for row in rows if row is not None]
        if {entry for row in rows for entry in wiring_entries(ends, row)} == set(entries):
            return Wirings(ends, rows)
    return None


class ToldBack(unittest.TestCase):
    def test_deeds(self):
        for deed in random_deeds(321, 150) + forked_deeds(322, 150)[-60:] + handing_deeds(323, 60):
            whole = wirings_of(deed)
            self.assertTrue(is_single(whole))
            self.assertEqual(told_back(deed.ends, two_things(whole)), whole)

    def test_single_wirings(self):
        chance = random.Random(324)
        for _ in range(250):
            some = drawn_single(chance)
            entries = two_things(some)
            told_order = entries + chance.sample(entries, len(entries) // 2)
            chance.shuffle(told_order)
            for told_entries in (entries, told_order, tuple(told_order)):
                found = told_back(list(some.ends), told_entries)
                self.assertIsInstance(found, Wirings)
                self.assertEqual(found, some)

    def test_entries_that_no_wirings_has(self):
        chance = random.Random(325)
        answers = []
        for _ in range(250):
            some = drawn_single(chance, 6)
            every = every_wiring(some.ends)
            if len(every) < 12:
                pool = list(itertools.product(*[form_entries(end, {"a": 2, "b": 2}) for end in some.ends]))
                entries = [entry for entry in two_things(some) if chance.random() < 0.9]
                entries += [chance.choice(pool) for _ in range(chance.randrange(2))]
                right = slow_told_back(some.ends, entries, every)
                found = told_back(some.ends, entries)
                self.assertEqual(found, right)
                answers.append(found is None)
        self.assertGreater(answers.count(True), 30)
        self.assertGreater(answers.count(False), 30)

    def test_all_sets_of_entries(self):
        """Of small ends each set of entries, with one and with several choices."""
        for text in ["a, a~", "a, a", "a + a, a~", "a & b, a~ + b~", "a, a~ | b", "a + (a * a), a~"]:
            ends = read_ends(text)
            every = every_wiring(ends)
            pool = list(itertools.product(*[form_entries(end, {"a": 2, "b": 2}) for end in ends]))
            for many in range(min(len(pool), 4) + 1):
                for entries in itertools.combinations(pool, many):
                    self.assertEqual(told_back(ends, list(entries)), slow_told_back(ends, entries, every))

    def test_told(self):
        self.assertEqual(told_back(PICK.ends, []), Wirings(PICK.ends, []))
        self.assertEqual(told_back(PICK.ends, ()), Wirings(PICK.ends, []))
        one_side = told("a & a, a~", [(((0, 1),), ((1, 2),))])
        self.assertEqual(told_back(PICK.ends, [((1, 0), 0), ((1, 1), 1)]), one_side)
        for entries in [[((0, 0), 0)], [((0, 0), 0), ((0, 1), 1), ((0, 0), 1)], [((0, 0), 1), ((0, 1), 0)],
                        [((0, 0), 0), ((0, 0), 0)], [((0, 0), 0), ((0, 1), 1), ((1, 0), 0)]]:
            self.assertIsNone(told_back(PICK.ends, entries))
        self.assertIsNone(told_back(read_ends("a, a"), [(0, 0), (1, 1)]))
        self.assertIsNone(told_back(read_ends("a, b~"), [(0, 0), (1, 1)]))
        self.assertIsNone(told_back(read_ends("a"), [(0,), (1,)]))

    def test_columns_that_are_alike_by_fours(self):
        """Two links of one good whose leaves always have the same thing lack entries."""
        ends = read_ends("a, a~, a, a~")
        self.assertIsNone(told_back(ends, [(0, 0, 0, 0), (1, 1, 1, 1)]))
        self.assertIsNone(told_back(ends, [(0, 0, 0, 0), (1, 1, 1, 1), (0, 0, 1, 1)]))
        self.assertEqual(told_back(ends, [(0, 0, 0, 0), (1, 1, 1, 1), (0, 0, 1, 1), (1, 1, 0, 0)]).wirings, (((), ((0, 1), (2, 3))),))
        self.assertEqual(told_back(ends, [(0, 0, 0, 0), (1, 1, 1, 1), (0, 1, 1, 0), (1, 0, 0, 1)]).wirings, (((), ((0, 3), (1, 2))),))
        self.assertIsNone(told_back(ends, [(0, 0, 0, 0), (1, 1, 1, 1), (0, 1, 0, 1), (1, 0, 1, 0)]))

    def test_wirings_that_are_not_single(self):
        """[34]: the three wirings that shift have the meaning of all six, and no single Wirings has it."""
        entries = two_things(SHIFTS)
        every = Wirings(SHIFTS.ends, every_wiring(SHIFTS.ends))
        self.assertEqual(entries, two_things(every))
        self.assertNotEqual(SHIFTS, every)
        self.assertIsNone(told_back(SHIFTS.ends, entries))
        chance = random.Random(326)
        for _ in range(60):
            some = drawn_single(chance)
            more = [wiring for wiring in every_wiring(some.ends) if wiring[0] in [choice for choice, _ in some.wirings]]
            other = Wirings(some.ends, some.wirings + tuple(chance.sample(more, min(len(more), 2))))
            if not is_single(other):
                self.assertIsNone(told_back(other.ends, two_things(other)))

    def test_equal_exactly_if_the_meanings_are(self):
        chance = random.Random(327)
        for _ in range(150):
            one = drawn_single(chance, 6)
            choices = [choice for choice, _ in one.wirings]
            others = [wiring for wiring in every_wiring(one.ends) if wiring[0] in choices]
            other = Wirings(one.ends, list({wiring[0]: wiring for wiring in chance.sample(others, len(others))}.values()))
            self.assertIs(one == other, two_things(one) == two_things(other))


class Single(unittest.TestCase):
    def test_told(self):
        for some in [PICK, told("a, a~", [PLAIN]), told("a, a~", []), told("a", [])]:
            self.assertIs(is_single(some), True)
        two = told("a, a, a~, a~", [((), ((0, 2), (1, 3))), ((), ((0, 3), (1, 2)))])
        self.assertIs(is_single(two), False)
        self.assertIs(is_single(SHIFTS), False)
        self.assertIs(is_single(wirings=PICK), True)

    def test_drawn(self):
        chance = random.Random(328)
        for _ in range(100):
            ends = small_ends(chance, 7, 4)
            every = every_wiring(ends)
            some = Wirings(ends, chance.sample(every, min(len(every), chance.randrange(5))))
            choices = [choice for choice, _ in some.wirings]
            self.assertIs(is_single(some), len(set(choices)) == len(choices))
            self.assertLessEqual(set(choices), set(all_choices(ends)))


class WrongArguments(unittest.TestCase):
    def test_no_wirings(self):
        for value in [None, 5, [PLAIN], ((A, anti("a")), (PLAIN,)), Deed(LA), "a, a~", ()]:
            kind, fields = raised(is_single, value)
            self.assertEqual(kind, "BadValue")
            self.assertIs(fields["value"], value)

    def test_no_ends(self):
        for ends in [None, [], (), "a", A, [A, None], [A] * 41, {0: A}, [["good", "a"]]]:
            for entries in ([], None, [5]):
                kind, fields = raised(told_back, ends, entries)
                self.assertEqual(kind, "BadValue")
                self.assertIs(fields["value"], ends)

    def test_no_list(self):
        for entries in [None, 5, "ab", {}, {((0, 0), 0): 1}, True]:
            kind, fields = raised(told_back, PICK.ends, entries)
            self.assertEqual(kind, "BadValue")
            self.assertIs(fields["value"], entries)

    def test_the_first_that_is_no_entry(self):
        for wrong in [None, 5, (), ((0, 0),), ((0, 0), 0, 0), [(0, 0), 0], ([0, 0], 0), ((0, 0), -1), ((0, 0), True), ((0, 0), (0,)),
                      ((0, 2), 0), ((0, 0), 2), ((2, 0), 0), ((True, 0), 0), ((0, 0), None), "00", (0, 0), {}]:
            for entries in ([wrong], [((0, 0), 0), wrong, None], (((0, 0), 1), wrong), [wrong, 7]):
                kind, fields = raised(told_back, PICK.ends, entries)
                self.assertEqual(kind, "BadValue")
                self.assertIs(fields["value"], wrong)

    def test_by_name(self):
        self.assertEqual(told_back(ends=PICK.ends, entries=two_things(PICK)), PICK)
        entries = two_things(PICK)
        told_back(entries=entries, ends=PICK.ends)
        self.assertEqual(entries, two_things(PICK))


if __name__ == "__main__":
    unittest.main()
