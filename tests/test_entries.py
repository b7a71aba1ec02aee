"""[29], [30], [31], [78]: sets, entries, and the parts of entries."""
import itertools
import random
import unittest

from alldeeds.entries import all_entries, choice_of, entry_with, is_entry, things_of
from alldeeds.formtexts import read_ends, read_form
from making import (all_choices, bushy, entry_at, form_entries, good, leaf_list, met, names_in, nested, raised, random_form,
                    small_ends)

A, B = good("a"), good("b")
BOTH = ("both", A, B)
FORK = ("offered", A, BOTH)
BIG = 10 ** 40


def drawn_value(chance, form, most):
    """An entry of the form with things below the most."""
    if len(form) == 2:
        return chance.randrange(most)
    if form[0] in ("offered", "chosen"):
        side = chance.randrange(2)
        return (side, drawn_value(chance, form[1 + side], most))
    return (drawn_value(chance, form[1], most), drawn_value(chance, form[2], most))


def changed(chance, value):
    """The value with one part of it changed."""
    if isinstance(value, tuple) and chance.random() < 0.7:
        at = chance.randrange(len(value))
        return value[:at] + (changed(chance, value[at]),) + value[at + 1:]
    return chance.choice([value, (value,), [value], None, -1, 5, True, (0, value), (value, value, value), "0", list(value)
                          if isinstance(value, tuple) else 1.0])


class IsEntry(unittest.TestCase):
    def test_told(self):
        sets = {"a": 2, "b": 3}
        for form, right, wrong in [
                (A, [0, 1], [2, -1, True, False, None, (0,), [0], "0", 0.0, (), (0, 0), {0}, b"0", object()]),
                (("counter", "b"), [0, 1, 2], [3, (0,)]),
                (BOTH, [(0, 0), (1, 2)], [(2, 0), (0, 3), (0,), (0, 0, 0), [0, 0], 0, ((0, 0),), (True, 0), (0, [0]), "00"]),
                (("between", A, B), [(1, 2)], [(2, 1), None]),
                (FORK, [(0, 0), (0, 1), (1, (0, 0)), (1, (1, 2))],
                 [(0, (0, 0)), (1, 0), (2, 0), (True, (0, 0)), (False, 0), (0, 2), (1, (2, 0)), [0, 0], (0,), 0, (-1, (0, 0)), (0, 0, 0)]),
                (("chosen", A, BOTH), [(0, 1), (1, (1, 2))], [(1, 1), (0, (0, 0)), (None, 0), ("0", 0)])]:
            for value in right:
                self.assertIs(is_entry(form, sets, value), True)
            for value in wrong:
                self.assertIs(is_entry(form, sets, value), False)

    def test_drawn(self):
        chance = random.Random(291)
        for _ in range(400):
            form = random_form(chance, 3)
            sets = {"a": chance.randrange(1, 4), "b": chance.randrange(1, 3)}
            every = form_entries(form, sets) if len(leaf_list([form])) < 6 else None
            for _ in range(5):
                value = drawn_value(chance, form, 3)
                other = changed(chance, value)
                for one in (value, other):
                    if every is not None:
                        same = [entry for entry in every if repr(entry) == repr(one)]
                        self.assertIs(is_entry(form, sets, one), bool(same))

    def test_sets_of_any_size(self):
        for form, value in [(A, BIG - 1), (BOTH, (BIG - 1, 0)), (FORK, (1, (BIG - 1, 0)))]:
            self.assertIs(is_entry(form, {"a": BIG, "b": 1}, value), True)
            self.assertIs(is_entry(form, {"a": BIG - 1, "b": 1}, value), False)

    def test_deep_values(self):
        deep = nested(A, 12)
        value = 0
        for _ in range(12):
            value = (value, 0)
        self.assertTrue(is_entry(deep, {"a": 1, "z": 1}, value))
        self.assertFalse(is_entry(deep, {"a": 1, "z": 1}, (value, 0)))
        for _ in range(5000):
            value = (value, 0)
        self.assertFalse(is_entry(deep, {"a": 1, "z": 1}, value))

    def test_keys_that_mean_nothing(self):
        for more in [{"c": 0}, {"B": None}, {5: 7}, {None: ()}, {(1, 2): "x"}, {"b": -1}]:
            self.assertTrue(is_entry(A, {"a": 1, **more}, 0))
            self.assertEqual(all_entries(A, {**more, "a": 2}), [0, 1])


class AllEntries(unittest.TestCase):
    def test_drawn(self):
        chance = random.Random(292)
        for _ in range(200):
            form = random_form(chance, 2)
            sets = {"a": chance.randrange(1, 4), "b": chance.randrange(1, 4)}
            found = all_entries(form, sets)
            self.assertIsInstance(found, list)
            self.assertEqual(found, sorted(form_entries(form, sets)))
            self.assertEqual(found, sorted(set(found)))
            self.assertTrue(all(is_entry(form, sets, entry) for entry in found))

    def test_a_form_and_its_counter(self):
        for one, other in [("a * b", "a~ | b~"), ("a & (b | a~)", "a~ + (b~ * a)")]:
            sets = {"a": 2, "b": 3}
            self.assertEqual(all_entries(read_form(one), sets), all_entries(read_form(other), sets))

    def test_20000_and_more(self):
        """20,000 entries are told, one more is too many."""
        fork, sets = ("offered", A, B), {"a": 2, "b": 3, "z": 1}
        form = fork
        for part in [fork] * 3 + [A] * 5:
            form = ("both", form, part)
        found = all_entries(form, sets)
        self.assertEqual((len(found), len(set(found))), (20000, 20000))
        self.assertEqual(found, sorted(found))
        for more in [("offered", form, good("z")), ("between", form, A), bushy(4, leaf=B), bushy(5, "between")]:
            self.assertEqual(raised(all_entries, more, sets), ("TooMany", {"most": 20000}))
        self.assertEqual(len(all_entries(("both", form, good("z")), sets)), 20000)
        self.assertEqual(len(all_entries(bushy(5, "offered"), {"a": 3})), 96)

    def test_sets_of_three_things_at_most(self):
        """[29]: where entries are listed; ahead of TooMany, and only for goods that occur."""
        for form, sets in [(A, {"a": 4}), (A, {"a": BIG}), (BOTH, {"a": 1, "b": 4}), (FORK, {"a": 3, "b": 4}),
                           (bushy(5), {"a": 4}), (("counter", "a"), {"a": 4, "b": 1})]:
            self.assertEqual(raised(all_entries, form, sets), ("BadValue", {"value": sets}))
        self.assertEqual(all_entries(A, {"a": 3, "b": 4}), [0, 1, 2])

    def test_new_each_time(self):
        first = all_entries(A, {"a": 2})
        first.append(5)
        self.assertEqual(all_entries(A, {"a": 2}), [0, 1])


class Parts(unittest.TestCase):
    def test_there_and_back(self):
        chance = random.Random(293)
        for _ in range(400):
            ends = small_ends(chance, 10, 6, "ab", 3)
            entry = tuple(drawn_value(chance, end, chance.choice([1, 2, 7, BIG])) for end in ends)
            choice, things = choice_of(ends, entry), things_of(ends, entry)
            self.assertIn(choice, all_choices(ends))
            self.assertEqual([leaf for leaf, _ in things], met(ends, choice))
            counts = [0, 0]
            self.assertEqual(tuple(entry_at(end, dict(choice), dict(things), counts) for end in ends), entry)
            told = list(things)
            chance.shuffle(told)
            self.assertEqual(entry_with(ends, choice, told), entry)
            self.assertEqual(entry_with(list(ends), choice, tuple(told)), entry)
            self.assertIsInstance(things, tuple)

    def test_every_choice(self):
        for text in ["a & (b + c), a~ * d", "(a & b) * (a & b)", "((a & a) & a) | b", "a"]:
            ends = read_ends(text)
            for choice in all_choices(ends):
                things = [(leaf, 10 * leaf) for leaf in met(ends, choice)]
                entry = entry_with(ends, choice, things[::-1])
                self.assertEqual((choice_of(ends, entry), things_of(ends, entry)), (choice, tuple(things)))

    def test_told(self):
        ends = read_ends("a & (b * a~), b")
        self.assertEqual((choice_of(ends, ((1, (0, 2)), 4)), things_of(ends, ((1, (0, 2)), 4))), (((0, 1),), ((1, 0), (2, 2), (3, 4))))
        self.assertEqual((choice_of([A], (5,)), things_of([A], (5,)), entry_with([A], (), [(0, 5)])), ((), ((0, 5),), (5,)))

    def test_entries_of_ends_over_sets(self):
        sets = {"a": 2, "b": 2}
        ends = read_ends("a & b, a~ | b")
        for entry in itertools.product(*[form_entries(end, sets) for end in ends]):
            self.assertEqual(entry_with(ends, choice_of(ends, entry), list(things_of(ends, entry))), entry)


class WrongArguments(unittest.TestCase):
    def test_no_form(self):
        for form in [None, 5, ["good", "a"], ("good", "A"), ("both", A), nested(A, 13), "a"]:
            for call, rest in [(is_entry, ({"a": 1}, 0)), (is_entry, (None, 0)), (all_entries, ({"a": 1},)), (all_entries, (None,))]:
                kind, fields = raised(call, form, *rest)
                self.assertEqual(kind, "BadValue")
                self.assertIs(fields["value"], form)

    def test_no_sets(self):
        for sets in [None, 5, [("a", 1), ("b", 1)], {}, {"a": 1}, {"a": 1, "b": 0}, {"a": -1, "b": 1}, {"a": 1, "b": True},
                     {"a": 1.0, "b": 1}, {"a": None, "b": 1}, {"a": "1", "b": 1}, {"b": 1, "c": 1}, "ab", {"a", "b"}, {"a": [1], "b": 1}]:
            for call, rest in [(is_entry, (None,)), (is_entry, ((0, 0),)), (all_entries, ())]:
                kind, fields = raised(call, BOTH, sets, *rest)
                self.assertEqual(kind, "BadValue")
                self.assertIs(fields["value"], sets)

    def test_no_ends(self):
        for ends in [None, [], (), "a", A, [A, None], [A] * 41, {0: A}, [["good", "a"]]]:
            for call, rest in [(choice_of, ((0,),)), (choice_of, (None,)), (things_of, ((0,),)), (things_of, (None,)),
                               (entry_with, ((), [(0, 0)])), (entry_with, (None, None))]:
                kind, fields = raised(call, ends, *rest)
                self.assertEqual(kind, "BadValue")
                self.assertIs(fields["value"], ends)

    def test_no_entry(self):
        ends = [FORK, B]
        for entry in [None, 5, (), ((0, 0),), ((0, 0), 0, 0), [(0, 0), 0], ([0, 0], 0), ((0, 0), -1), ((0, 0), True), ((0, 0), (0,)),
                      ((1, 0), 0), ((0, (0, 0)), 0), ((2, 0), 0), ((True, (0, 0)), 0), ((1, (0, "0")), 0), ((0, 0), 0.0), ((0, 0), None),
                      ((1, (0, 0, 0)), 0), ((1, [0, 0]), 0), "00", {0: 0}, ((0,), 0), (0, 0)]:
            for call in (choice_of, things_of):
                kind, fields = raised(call, ends, entry)
                self.assertEqual(kind, "BadValue")
                self.assertIs(fields["value"], entry)

    def test_no_choice(self):
        ends = [FORK, B]
        for choice in [None, 0, (), ((0, 2),), [(0, 0)], ([0, 0],), ((0, True),), ((1, 0),), ((0, 0), (0, 0)), ((0, 0, 0),), "0", ((0,),)]:
            for things in ([(0, 0), (3, 0)], None):
                kind, fields = raised(entry_with, ends, choice, things)
                self.assertEqual(kind, "BadValue")
                self.assertIs(fields["value"], choice)

    def test_no_things(self):
        """Looked at as a whole."""
        ends = [FORK, B]
        for things in [None, 5, [], [(0, 0)], [(0, 0), (3, 0), (1, 0)], [(0, 0), (0, 0), (3, 0)], [(0, 0), (0, 1), (3, 0)], [[0, 0], (3, 0)],
                       [(0, 0), (3, -1)], [(0, 0), (3, True)], [(0, 0), (3, None)], [(0, 0), (3, 0.0)], [(0, 0), (True, 0), (3, 0)],
                       [(False, 0), (3, 0)], [(0, 0), (2, 0)], {0: 0, 3: 0}, [(0, 0), (3,)], [(0, 0), (3, 0, 0)], [(0, 0), 3], "00",
                       [(0, 0), ("3", 0)], [(0, 0), (3, (0,))], [(0.0, 0), (3, 0)], [(-1, 0), (3, 0)], [(0, 0), (10 ** 20, 0)]]:
            kind, fields = raised(entry_with, ends, ((0, 0),), things)
            self.assertEqual(kind, "BadValue")
            self.assertIs(fields["value"], things)
        self.assertEqual(entry_with(ends, ((0, 0),), ((3, 0), (0, 0))), ((0, 0), 0))

    def test_by_name(self):
        self.assertIs(is_entry(form=A, sets={"a": 2}, value=1), True)
        self.assertEqual(all_entries(sets={"a": 2}, form=A), [0, 1])
        self.assertEqual(choice_of(ends=[A], entry=(3,)), ())
        self.assertEqual(things_of(entry=(3,), ends=[A]), ((0, 3),))
        self.assertEqual(entry_with(ends=[A], choice=(), things=[(0, 3)]), (3,))
        self.assertEqual(names_in(FORK), {"a", "b"})


if __name__ == "__main__":
    unittest.main()
