"""[46], [54], [86]: kinds, their forms and their texts."""
import random
import unittest

from alldeeds.formtexts import read_form
from alldeeds.kinds import form_of_kind, goods_in, is_kind, kind_of_form, kind_taken, kind_text, read_kind
from grammar import KIND_RULES, longest_beginning
from growing import kind_depth, random_kind
from making import bushy, counter_of, good, names_in, raised, random_form

A, B = good("a"), good("b")
SIGNS = {"pair": "*", "sum": "+", "offer": "&", "to": "->"}
WRONG = [None, 5, "a", (), ("good",), ("good", "A"), ("good", "a", "b"), ["good", "a"], ("counter", "a"), ("pair", A), ("pair", A, A, A),
         ("both", A, B), ("chosen", A, B), ("offered", A, B), ("pair", A, ["good", "a"]), ("to", A, ("counter", "b")), ("good", "1a"),
         ("good", "a" * 13), ("good", ""), (("pair",), A, B), ("Pair", A, B), object(), ("sum", A, None), ("good", 5), True]


def slow_form(kind):
    if len(kind) == 2:
        return kind
    one, other = slow_form(kind[1]), slow_form(kind[2])
    return {"pair": ("both", one, other), "sum": ("chosen", one, other), "offer": ("offered", one, other),
            "to": ("between", counter_of(one), other)}[kind[0]]


def slow_text(kind):
    if len(kind) == 2:
        return kind[1]
    halves = [slow_text(half) if len(half) == 2 else f"({slow_text(half)})" for half in kind[1:]]
    return f"{halves[0]} {SIGNS[kind[0]]} {halves[1]}"


def spaced(chance, text):
    """The text with other spaces."""
    parts = text.replace("->", ">").split(" ")
    told = "".join(" " * chance.randrange(3) + part for part in parts) + " " * chance.randrange(3)
    for sign in "()*+&>":
        told = told.replace(sign, " " * chance.randrange(2) + sign + " " * chance.randrange(3))
    return told.replace(">", "->")


class Kinds(unittest.TestCase):
    def test_is_kind(self):
        chance = random.Random(431)
        for _ in range(200):
            kind = random_kind(chance, 4)
            self.assertIs(is_kind(kind), True)
            self.assertIs(is_kind(list(kind)), False)
            if len(kind) == 3:
                self.assertIs(is_kind(kind[:1] + (list(kind[1]), kind[2])), False)
                self.assertIs(is_kind(kind + (A,)), False)
        for value in WRONG:
            self.assertIs(is_kind(value), False, value)

    def test_12_and_13_deep(self):
        for word in SIGNS:
            self.assertIs(is_kind(bushy(12, word)), True)
            self.assertIs(is_kind(bushy(13, word)), False)
        for at in (1, 2):
            kind = A
            for depth in range(1, 14):
                kind = ("sum", kind, B) if at == 1 else ("sum", B, kind)
                self.assertIs(is_kind(kind), depth <= 12)
        kind = ("to", bushy(11, "pair"), bushy(11, "sum"))
        self.assertEqual(kind_of_form(form_of_kind(kind)), kind)
        deep = A
        for _ in range(5000):
            deep = ("pair", A, deep)
        self.assertIs(is_kind(deep), False)

    def test_forms_and_back(self):
        chance = random.Random(432)
        for _ in range(300):
            kind = random_kind(chance, 4, "abc")
            form = form_of_kind(kind)
            self.assertEqual(form, slow_form(kind))
            self.assertEqual(kind_of_form(form), kind)
            self.assertEqual(kind_taken(counter_of(form)), kind)
            self.assertIsNone(kind_taken(form))
            self.assertIsNone(kind_of_form(counter_of(form)))

    def test_drawn_forms(self):
        """A form is given, or taken, or neither; never both."""
        chance = random.Random(433)
        found = set()
        for _ in range(3000):
            form = random_form(chance, 3)
            given, taken = kind_of_form(form), kind_taken(form)
            if given is not None:
                self.assertEqual(form_of_kind(given), form)
            if taken is not None:
                self.assertEqual(form_of_kind(taken), counter_of(form))
            self.assertTrue(given is None or taken is None)
            found.add((given is None, taken is None))
        self.assertEqual(len(found), 3)

    def test_told(self):
        for text, kind in [("a", A), ("a~", None), ("a | b", None), ("a~ | b", ("to", A, B)), ("a~ | b~", None), ("a * b~", None),
                           ("(a | b~) | b", None), ("(a * b~) | b", ("to", ("to", A, B), B)), ("a & (b + a)", ("offer", A, ("sum", B, A))),
                           ("(a~ | b~) | b", ("to", ("pair", A, B), B)), ("(a~ & b~) | a", ("to", ("sum", A, B), A)),
                           ("(a~ + b~) | a", ("to", ("offer", A, B), A))]:
            self.assertEqual(kind_of_form(read_form(text)), kind)
            self.assertIsNone(kind_taken(read_form(text)) if text not in ("a~", "a~ | b~", "a * b~") else None)
        self.assertEqual(kind_taken(read_form("a~ | b~")), ("pair", A, B))
        self.assertEqual(kind_taken(read_form("a * b~")), ("to", A, B))

    def test_goods_in(self):
        chance = random.Random(434)
        for _ in range(100):
            kind = random_kind(chance, 4, ["b", "a", "a1", "zz"])
            self.assertEqual(goods_in(kind), tuple(sorted(names_in(kind))))

    def test_bad_value(self):
        for call in (form_of_kind, kind_text, goods_in):
            for value in WRONG + [bushy(13, "pair")]:
                self.assertEqual(raised(call, value), ("BadValue", {"value": value}))
        for call in (kind_of_form, kind_taken):
            for value in [None, 5, ("pair", A, B), ["good", "a"], bushy(13), ("both", A)]:
                self.assertEqual(raised(call, value), ("BadValue", {"value": value}))


class Texts(unittest.TestCase):
    def test_there_and_back(self):
        chance = random.Random(435)
        for _ in range(200):
            kind = random_kind(chance, 4, ["a", "b", "let", "in1"])
            self.assertEqual(kind_text(kind), slow_text(kind))
            self.assertEqual(read_kind(kind_text(kind)), kind)
            self.assertEqual(read_kind(spaced(chance, kind_text(kind))), kind)

    def test_told(self):
        kind = ("to", A, ("pair", B, good("c")))
        self.assertEqual(kind_text(kind), "a -> (b * c)")
        self.assertEqual(read_kind("  a->( b*c )"), kind)
        self.assertEqual(read_kind("let"), good("let"))

    def test_longest_beginnings(self):
        for text, at in [("", 0), ("  ", 2), ("a", None), ("a -", 3), ("a - > b", 3), ("a ->", 4), ("a -> b -> c", 7), ("(a)", 2),
                         ("(a * b)", 7), ("a~", 1), ("a | b", 2), ("1a", 0), ("a b", 2), ("A", 0), ("abcdefghijklm", 12), ("a > b", 2),
                         ("a * b)", 5), ("((a * b) -> c", 13), ("(a * b) ->c", None), ("a\t* b", 1), ("a *\nb", 3), ("a -b", 3)]:
            self.assertEqual(longest_beginning(KIND_RULES, "kind", text), at, text)
            if at is not None:
                self.assertEqual(raised(read_kind, text), ("NotAText", {"at": at}), text)

    def test_texts_that_are_changed(self):
        chance = random.Random(436)
        for _ in range(60):
            text = spaced(chance, kind_text(random_kind(chance, 3, ["a", "b1"])))
            for at in range(len(text) + 1):
                for changed in (text[:at], text[:at] + chance.choice("ab1~|*+&->()? ;") + text[at + chance.randrange(2):]):
                    right = longest_beginning(KIND_RULES, "kind", changed)
                    if right is None:
                        self.assertTrue(is_kind(read_kind(changed)))
                    else:
                        self.assertEqual(raised(read_kind, changed), ("NotAText", {"at": right}), changed)

    def test_too_deep(self):
        text = "a"
        for depth in range(1, 16):
            text = f"({text}) -> b" if depth > 1 else "a -> b"
            if depth <= 12:
                self.assertEqual(kind_depth(read_kind(text)), depth)
            else:
                self.assertEqual(raised(read_kind, text), ("TooDeep", {"most": 12}))
                self.assertEqual(raised(read_kind, text + " -> c"), ("NotAText", {"at": len(text) + 1}))

    def test_no_string(self):
        for value in [None, 5, b"a", ["a"], A, True]:
            self.assertEqual(raised(read_kind, value), ("BadValue", {"value": value}))


if __name__ == "__main__":
    unittest.main()
