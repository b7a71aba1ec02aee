"""[5], [6], [63]: leaves, forks and choices of ends."""
import random
import unittest

from alldeeds import ends as told
from alldeeds.formtexts import ends_text, read_ends, read_form
from making import all_choices, anti, bushy, fork_list, good, leaf_list, met, nested, raised, random_form

A, B = good("a"), good("b")
ONE_ARGUMENT = ["leaves", "forks", "leaf_ends", "fork_ends", "above_leaves", "above_forks", "choices"]


def bad_ends():
    """Values that are no ends."""
    deep = A
    for _ in range(600):
        deep = ("both", deep, A)
    return [None, True, 3, "a", "", [], (), {}, {"a": A}, A, anti("a"), ("both", A, B), [A, "a"], [A, None], [[A]],
            [["good", "a"]], [A, ("good", "A")], [A] * 41, (A,) * 41, [bushy(5), bushy(3), A], [bushy(6)], [nested(A, 13)],
            [A, deep], [bushy(12)] * 50, object()]


def random_ends(seed, many):
    """Lists of ends that are not too great."""
    chance = random.Random(seed)
    found = []
    while len(found) < many:
        ends = [random_form(chance, 3) for _ in range(chance.randrange(1, 4))]
        if len(leaf_list(ends)) <= 14 and len(fork_list(ends)) <= 8:
            found.append(ends)
    return found


class Leaves(unittest.TestCase):
    def test_reading_order(self):
        ends = read_ends("c, (a & (b * c~)) + (d | (e + f)), g~ & g")
        self.assertEqual(told.leaves(ends), (good("c"), A, B, anti("c"), good("d"), good("e"), good("f"), anti("g"), good("g")))
        self.assertEqual(told.forks(ends), ("chosen", "offered", "chosen", "offered"))
        self.assertEqual(told.leaf_ends(ends), (0, 1, 1, 1, 1, 1, 1, 2, 2))
        self.assertEqual(told.fork_ends(ends), (1, 1, 1, 2))
        self.assertEqual(told.above_leaves(ends), ((), ((0, 0), (1, 0)), ((0, 0), (1, 1)), ((0, 0), (1, 1)), ((0, 1),),
                                                   ((0, 1), (2, 0)), ((0, 1), (2, 1)), ((3, 0),), ((3, 1),)))
        self.assertEqual(told.above_forks(ends), ((), ((0, 0),), ((0, 1),), ()))

    def test_no_forks(self):
        ends = (("both", A, B), anti("a"))
        self.assertEqual((told.forks(ends), told.fork_ends(ends), told.above_forks(ends)), ((), (), ()))
        self.assertEqual(told.above_leaves(ends), ((), (), ()))
        self.assertEqual(told.choices(ends), ((),))
        self.assertEqual(told.met_leaves(ends, ()), (0, 1, 2))
        self.assertEqual(told.settled(ends, ()), ends)

    def test_random_ends(self):
        for ends in random_ends(4, 150):
            leaves, forks = leaf_list(ends), fork_list(ends)
            self.assertEqual(told.leaves(ends), tuple(leaf for leaf, _ in leaves))
            self.assertEqual(told.above_leaves(ends), tuple(above for _, above in leaves))
            self.assertEqual(told.forks(ends), tuple(word for word, _ in forks))
            self.assertEqual(told.above_forks(ends), tuple(above for _, above in forks))
            where = [k for k, end in enumerate(ends) for _ in leaf_list([end])]
            self.assertEqual(told.leaf_ends(ends), tuple(where))
            where = [k for k, end in enumerate(ends) for _ in fork_list([end])]
            self.assertEqual(told.fork_ends(ends), tuple(where))

    def test_forty_leaves(self):
        ends = [bushy(5), bushy(2), A, A, ("both", B, B)]
        self.assertEqual(len(told.leaves(ends)), 40)
        self.assertEqual(told.leaf_ends([A] * 40), tuple(range(40)))
        self.assertEqual(told.choices([A] * 40), ((),))

    def test_lists_and_tuples(self):
        ends = read_ends("a & b, c")
        for name in ONE_ARGUMENT:
            call = getattr(told, name)
            self.assertEqual(call(ends), call(tuple(ends)))
            self.assertIsInstance(call(ends), tuple)
            self.assertEqual(call(ends=ends), call(ends))
        self.assertEqual(told.is_choice(tuple(ends), ((0, 1),)), True)
        self.assertEqual(told.met_leaves(tuple(ends), ((0, 1),)), (1, 2))
        self.assertEqual(told.settled(ends=tuple(ends), choice=((0, 1),)), (B, good("c")))


class Choices(unittest.TestCase):
    def test_met_forks_alone(self):
        ends = read_ends("(a & b) + (c & d), e + f")
        self.assertEqual(told.choices(ends), tuple(
            ((0, s), (1 + s, t), (3, u)) for s in (0, 1) for t in (0, 1) for u in (0, 1)))

    def test_random_ends(self):
        for ends in random_ends(5, 120):
            right = all_choices(ends)
            self.assertEqual(told.choices(ends), tuple(right))
            for choice in right[:12]:
                self.assertIs(told.is_choice(ends, choice), True)
                self.assertEqual(told.met_leaves(ends, choice), tuple(met(ends, choice)))
                forms = told.settled(ends, choice)
                self.assertEqual(told.forks(forms), ())
                kept = [leaf for k, (leaf, _) in enumerate(leaf_list(ends)) if k in met(ends, choice)]
                self.assertEqual(list(told.leaves(forms)), kept)

    def test_random_values_are_looked_at(self):
        chance = random.Random(6)
        for ends in random_ends(7, 60):
            right = set(all_choices(ends))
            many = len(fork_list(ends))
            for _ in range(40):
                numbers = sorted(chance.sample(range(many + 1), chance.randrange(many + 2)))
                value = tuple((k, chance.randrange(2)) for k in numbers)
                self.assertIs(told.is_choice(ends, value), value in right)

    def test_wrong_choices(self):
        ends = read_ends("a & (b + c), a~ & d")
        right = ((0, 1), (1, 0), (2, 1))
        self.assertIs(told.is_choice(ends, right), True)
        self.assertIs(told.is_choice(ends, ((0, 0), (2, 0))), True)
        deep = ()
        for _ in range(700):
            deep = (deep,)
        for value in [(), ((0, 0),), ((2, 0),), ((0, 0), (0, 0), (2, 0)), ((0, 0), (2, 0), (2, 0)), ((0, 1), (0, 0), (2, 0)),
                      ((0, 1), (2, 1)), ((0, 0), (1, 0), (2, 1)), ((0, 0), (1, 1), (2, 0)),
                      ((2, 1), (0, 1), (1, 0)), ((0, 1), (2, 1), (1, 0)), right + ((3, 0),), right + ((2, 1),),
                      ((0, 1), (0, 1), (1, 0), (2, 1)), ((0, 0), (0, 1), (1, 0), (2, 1)), ((-1, 0), (0, 0), (2, 0)),
                      ((0, 1), (1, 2), (2, 1)), ((0, 1), (1, -1), (2, 1)), ((False, 0), (2, 0)), ((0, False), (2, 0)),
                      ((0, True), (1, 0), (2, 1)), ((0, 1), (True, 0), (2, 1)), [(0, 0), (2, 0)], ([0, 0], (2, 0)),
                      ((0, 0), [2, 0]), ((0, 0, 0), (2, 0)), ((0,), (2, 0)), (0, 2), ((0, 0), 2), ((0, None), (2, 0)),
                      (("0", 0), (2, 0)), None, True, 0, "", {}, {0: 0, 2: 0}, deep, ((0, deep), (2, 0)), ((0, 0.0), (2, 0)),
                      ((0, 0), (2, 0), None), ((10 ** 30, 0),), (([], 0), (2, 0))]:
            with self.subTest(value=str(value)[:100]):
                self.assertIs(told.is_choice(ends, value), False)
                for call in (told.met_leaves, told.settled):
                    kind, fields = raised(call, ends, value)
                    self.assertEqual(kind, "BadValue")
                    self.assertIs(fields["value"], value)
        self.assertIs(told.is_choice([A], []), False)
        self.assertIs(told.is_choice([A], ((0, 0),)), False)
        self.assertIs(told.is_choice([A], ()), True)

    def test_settled(self):
        ends = read_ends("((a & b) * c) + (d | (e + f)), (a & b) | c~")
        self.assertEqual(ends_text(told.settled(ends, ((0, 0), (1, 1), (3, 0)))), "b * c, a | c~")
        self.assertEqual(ends_text(told.settled(ends, ((0, 1), (2, 1), (3, 1)))), "d | f, b | c~")
        self.assertEqual(told.settled([("chosen", ("offered", A, B), A)], ((0, 0), (1, 1))), (B,))

    def test_thousand_choices_and_more(self):
        ten = read_form("a & (a & (a & (a & (a & (a & (a & (a & (a & a))))))))")
        self.assertEqual(len(told.choices([ten])), 10)
        found = told.choices([ten, ten, ten])
        self.assertEqual(len(found), 1000)
        self.assertEqual(found, tuple(sorted(found)))
        self.assertEqual(len(set(found)), 1000)
        self.assertEqual(len(told.choices([("both", ten, ("between", ten, ten)), A])), 1000)
        self.assertEqual(raised(told.choices, [ten, ten, ("offered", ten, A)]), ("TooMany", {"most": 1000}))
        self.assertEqual(raised(told.choices, [("chosen", ("both", ten, ("both", ten, ten)), A)]), ("TooMany", {"most": 1000}))
        self.assertEqual(raised(told.choices, [("offered", A, A)] * 10), ("TooMany", {"most": 1000}))
        self.assertEqual(raised(told.choices, [("offered", A, A)] * 20), ("TooMany", {"most": 1000}))
        self.assertEqual(len(told.choices([("offered", A, A)] * 9)), 512)

    def test_great_ends_beside_choices(self):
        ends = [("offered", A, A)] * 20
        choice = tuple((k, k % 2) for k in range(20))
        self.assertIs(told.is_choice(ends, choice), True)
        self.assertEqual(told.met_leaves(ends, choice), tuple(2 * k + k % 2 for k in range(20)))
        self.assertEqual(told.settled(ends, choice), (A,) * 20)
        self.assertIs(told.is_choice(ends, choice[:19]), False)


class WrongEnds(unittest.TestCase):
    def test_all_functions(self):
        for number, ends in enumerate(bad_ends()):
            for name in ONE_ARGUMENT:
                with self.subTest(number=number, name=name):
                    kind, fields = raised(getattr(told, name), ends)
                    self.assertEqual(kind, "BadValue")
                    self.assertIs(fields["value"], ends)
            for call in (told.is_choice, told.met_leaves, told.settled):
                for choice in ((), None):
                    kind, fields = raised(call, ends, choice)
                    self.assertEqual(kind, "BadValue")
                    self.assertIs(fields["value"], ends)


if __name__ == "__main__":
    unittest.main()
