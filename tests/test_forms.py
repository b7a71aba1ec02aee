"""[3], [4], [61]: names, forms, their depths, goods and counters, and forms with others in them."""
import random
import unittest

from alldeeds.forms import counter, depth, goods, is_form, is_name, with_forms
from making import anti, bushy, counter_of, good, nested, raised, random_form

A, B = good("a"), good("b")


def bad_forms():
    """Values that are no forms."""
    deep = A
    for _ in range(800):
        deep = ("both", deep, A)
    right_deep = A
    for _ in range(800):
        right_deep = ("offered", A, right_deep)
    shared = A
    for _ in range(200):
        shared = ("between", shared, shared)
    nothing = ()
    for _ in range(900):
        nothing = (nothing,)
    wrong_leaves = [
        ("good", ""), ("good", "A"), ("good", "1a"), ("good", "a_"), ("good", "a" * 13), ("good", "a b"), ("good", " a"),
        ("good", "a\n"), ("good", "a~"), ("good", "\u00e9"), ("good", "a\u0661"), ("good", None), ("good", 1),
        ("good", True), ("good", b"a"), ("good", ("good", "a")), ("good", ["a"]), ("Good", "a"), ("goods", "a"),
        ("both", "a"), ("", "a"), (None, "a"), (1, "a"), (["good"], "a"), ("good",), ("good", "a", "b"),
        ("good", "a", B), ("counter", "A"), ("counter",), ("counter", "a", "a"), ["good", "a"],
    ]
    wrong_halves = [
        ("both",), ("both", A), ("both", A, B, A), ("both", A, "b"), ("both", "a", B), ("both", A, None),
        ("both", A, ["good", "b"]), ["both", A, B], ("both", [A, B]), ("Both", A, B), ("good", A, B), ("and", A, B),
        ("offer", A, B), ("choose", A, B), (A, "both", B), ("both", A, ("both", A, ("good", "B"))), (None, A, B),
        ({}, A, B), ("both", A, B, None), ("link", A, B),
    ]
    others = [None, True, 0, 7, "a", "good", "", (), [], {}, {"good": "a"}, b"good", 1.5, object(), {"good", "a"}]
    return wrong_leaves + wrong_halves + others + [deep, right_deep, shared, nothing, nested(A, 13)]


class Names(unittest.TestCase):
    def test_right_names(self):
        for name in ["a", "z", "a1", "a0", "x9z", "abcdefghijkl", "z" + "9" * 11, "good", "let", "both"]:
            with self.subTest(name=name):
                self.assertIs(is_name(name), True)

    def test_wrong_names(self):
        for value in ["", "abcdefghijklm", "a" * 400, "1", "0a", "A", "aB", "a b", " a", "a ", "a~", "a-b", "a_b", "a\n",
                      "a\t", "\u00e9", "a\u00e9", "a\u00b2", "\u0430", "a\u0663", "\uff41", None, True, 1, ("a",), ["a"],
                      b"a", {}, 1.5]:
            with self.subTest(value=value):
                self.assertIs(is_name(value), False)


class Forms(unittest.TestCase):
    def test_right_forms(self):
        for form in [A, anti("abcdefghijkl"), ("both", A, A), ("between", A, anti("b")), ("offered", A, B),
                     ("chosen", ("both", A, B), anti("a1")), nested(A, 12), bushy(12), nested(anti("q"), 12, "chosen")]:
            self.assertIs(is_form(form), True)

    def test_wrong_forms(self):
        for number, value in enumerate(bad_forms()):
            with self.subTest(number=number):
                self.assertIs(is_form(value), False)

    def test_wrong_forms_raise(self):
        for number, value in enumerate(bad_forms()):
            for call in (counter, depth, goods):
                with self.subTest(number=number, call=call):
                    kind, fields = raised(call, value)
                    self.assertEqual(kind, "BadValue")
                    self.assertIs(fields["value"], value)
            kind, fields = raised(with_forms, value, {})
            self.assertEqual(kind, "BadValue")
            self.assertIs(fields["value"], value)

    def test_depth_twelve_and_thirteen(self):
        for word in ("both", "between", "offered", "chosen"):
            right = A
            for many in range(12):
                self.assertEqual(depth(nested(A, many, word)), many)
                self.assertEqual(depth(right), many)
                right = (word, B, right)
            self.assertTrue(is_form(right) and is_form(nested(B, 12, word)))
            self.assertFalse(is_form((word, B, right)) or is_form(nested(B, 13, word)))
        self.assertEqual(depth(("both", nested(A, 3), nested(A, 7))), 8)
        self.assertEqual(depth(("offered", nested(A, 7), nested(A, 3))), 8)
        self.assertEqual(depth(bushy(12)), 12)


class Counters(unittest.TestCase):
    def test_each_word(self):
        self.assertEqual(counter(A), anti("a"))
        self.assertEqual(counter(anti("a")), A)
        for word, other in [("both", "between"), ("offered", "chosen")]:
            self.assertEqual(counter((word, A, anti("b"))), (other, anti("a"), B))
            self.assertEqual(counter((other, A, anti("b"))), (word, anti("a"), B))

    def test_twice_is_the_form_itself(self):
        chance = random.Random(1)
        for _ in range(200):
            form = random_form(chance, 5)
            self.assertEqual(counter(counter(form)), form)
            self.assertEqual(counter(form), counter_of(form))
            self.assertNotEqual(counter(form), form)
            self.assertEqual(depth(counter(form)), depth(form))
            self.assertEqual(goods(counter(form)), goods(form))

    def test_the_deepest(self):
        self.assertEqual(counter(bushy(12, "both", anti("x"))), bushy(12, "between", good("x")))


class Goods(unittest.TestCase):
    def test_ascending_and_once(self):
        self.assertEqual(goods(A), ("a",))
        self.assertEqual(goods(anti("b7")), ("b7",))
        form = ("both", ("chosen", good("b"), anti("a10")), ("between", anti("a2"), ("offered", good("b"), anti("a"))))
        self.assertEqual(goods(form), ("a", "a10", "a2", "b"))
        self.assertEqual(goods(("both", good("z"), ("both", good("a"), anti("z")))), ("a", "z"))
        self.assertIsInstance(goods(form), tuple)


class WithForms(unittest.TestCase):
    def test_goods_and_counters(self):
        told = {"a": ("offered", B, anti("c"))}
        self.assertEqual(with_forms(A, told), ("offered", B, anti("c")))
        self.assertEqual(with_forms(anti("a"), told), ("chosen", anti("b"), good("c")))
        self.assertEqual(with_forms(B, told), B)
        form = ("both", ("chosen", A, B), ("between", anti("a"), anti("b")))
        self.assertEqual(with_forms(form, told), ("both", ("chosen", told["a"], B),
                                                  ("between", ("chosen", anti("b"), good("c")), anti("b"))))

    def test_all_at_once_and_once(self):
        self.assertEqual(with_forms(("both", A, anti("b")), {"a": B, "b": A}), ("both", B, anti("a")))
        self.assertEqual(with_forms(A, {"a": ("both", A, A)}), ("both", A, A))
        self.assertEqual(with_forms(A, {"a": anti("a")}), anti("a"))
        self.assertEqual(with_forms(anti("a"), {"a": anti("a")}), A)

    def test_names_that_do_not_occur(self):
        self.assertEqual(with_forms(A, {}), A)
        self.assertEqual(with_forms(A, {"b": bushy(12), "c": nested(A, 12)}), A)

    def test_too_deep(self):
        told = {"a": nested(B, 5), "b": nested(A, 12)}
        self.assertEqual(depth(with_forms(nested(A, 7), told)), 12)
        self.assertEqual(raised(with_forms, nested(A, 8), told), ("TooDeep", {"most": 12}))
        self.assertEqual(with_forms(B, told), nested(A, 12))
        self.assertEqual(raised(with_forms, ("both", A, B), told), ("TooDeep", {"most": 12}))
        self.assertEqual(raised(with_forms, ("both", good("c"), anti("b")), told), ("TooDeep", {"most": 12}))
        self.assertEqual(raised(with_forms, bushy(12), {"a": bushy(12)}), ("TooDeep", {"most": 12}))
        shallow = ("both", nested(good("c"), 11), A)
        self.assertEqual(with_forms(shallow, {"a": nested(B, 11)}), ("both", nested(good("c"), 11), nested(B, 11)))

    def test_wrong_dicts(self):
        for forms in [None, [], (), [("a", A)], "a", {"A": A}, {"": A}, {1: A}, {None: A}, {("a",): A}, {"a": "a"},
                      {"a": None}, {"a": ["good", "a"]}, {"a": A, "b": ("good", "B")}, {"a": nested(A, 13)}, {"x" * 13: A}]:
            with self.subTest(forms=forms):
                kind, fields = raised(with_forms, A, forms)
                self.assertEqual(kind, "BadValue")
                self.assertIs(fields["value"], forms)
        self.assertEqual(raised(with_forms, nested(A, 12), {"a": B, "b": nested(A, 12), "c": 5})[0], "BadValue")
        bad = ("both", A)
        self.assertIs(raised(with_forms, bad, None)[1]["value"], bad)


if __name__ == "__main__":
    unittest.main()
