"""[47], [54], [88]: terms, and the texts of programs."""
import random
import unittest

from alldeeds.programtexts import is_term, program_text, read_program, term_text
from grammar import longest_of_program
from growing import WORDS, all_paths, grown_programs, term_at, with_term_at, words_in
from making import bushy, good, raised

A, B = good("a"), good("b")
X, Y, Z = ("name", "x"), ("name", "y"), ("name", "z")
SUM = ("sum", A, B)
SIGNS = {"pair": "*", "sum": "+", "offer": "&", "to": "->"}
RIGHT = [X, ("pair", X, X), ("let", "x", "x", X, Y), ("fn", "x", A, Y), ("apply", X, Y), ("left", X, A), ("right", X, SUM),
         ("case", X, "y", Y, "y", Z), ("ways", X, Y), ("first", X), ("second", ("first", X))]


def slow_kind(kind):
    if len(kind) == 2:
        return kind[1]
    halves = [slow_kind(half) if len(half) == 2 else f"({slow_kind(half)})" for half in kind[1:]]
    return f"{halves[0]} {SIGNS[kind[0]]} {halves[1]}"


def slow_text(term, place="term"):
    """The text of a term at one of the places: term, function, argument (also the piece of first and second)."""
    word, rest = term[0], term[1:]
    told = {
        "name": lambda: rest[0], "pair": lambda: f"({slow_text(rest[0])}, {slow_text(rest[1])})",
        "let": lambda: f"let {rest[0]}, {rest[1]} = {slow_text(rest[2])} in {slow_text(rest[3])}",
        "fn": lambda: f"fn {rest[0]} : {slow_kind(rest[1])} . {slow_text(rest[2])}",
        "apply": lambda: slow_text(rest[0], "function") + " " + slow_text(rest[1], "argument"),
        "left": lambda: f"left({slow_text(rest[0])} : {slow_kind(rest[1])})",
        "right": lambda: f"right({slow_text(rest[0])} : {slow_kind(rest[1])})",
        "case": lambda: f"case {slow_text(rest[0])} of {rest[1]} . {slow_text(rest[2])} or {rest[3]} . {slow_text(rest[4])}",
        "ways": lambda: f"[{slow_text(rest[0])}, {slow_text(rest[1])}]", "first": lambda: "first " + slow_text(rest[0], "argument"),
        "second": lambda: "second " + slow_text(rest[0], "argument"),
    }[word]()
    bracketed = {"term": (), "function": ("let", "fn", "case"), "argument": ("let", "fn", "case", "apply")}[place]
    return f"({told})" if word in bracketed else told


def tokens(text):
    """The names, words and signs of a right text."""
    for sign in "()[],;:.=*+&":
        text = text.replace(sign, f" {sign} ")
    return text.replace("->", " -> ").split()


def spaced(chance, text, most=2):
    """The same text with drawn spaces; at least one between two names or words."""
    told, last = "", ""
    for token in tokens(text):
        least = 1 if last[-1:].isalnum() and token[0].isalnum() else 0
        told += " " * chance.randrange(least, least + most + 1) + token
        last = token
    return told + " " * chance.randrange(most + 1)


def drawn_term(chance, depth):
    """Any term, right or wrong."""
    word = chance.choice(["name"] + list(SLOT_MAKERS)) if depth else "name"
    names = ["x", "y1", "lets", "i", "abcdefghijkl", "o", "caseof", "z"]
    if word == "name":
        return ("name", chance.choice(names))
    told = []
    for slot in SLOT_MAKERS[word]:
        told.append({"n": lambda: chance.choice(names), "k": lambda: chance.choice([A, SUM, ("to", SUM, ("pair", A, good("in")))]),
                     "t": lambda: drawn_term(chance, depth - 1)}[slot]())
    return (word,) + tuple(told)


SLOT_MAKERS = {"pair": "tt", "let": "nntt", "fn": "nkt", "apply": "tt", "left": "tk", "right": "tk", "case": "tntnt", "ways": "tt",
               "first": "t", "second": "t"}


class IsTerm(unittest.TestCase):
    def test_right(self):
        for term in RIGHT:
            self.assertIs(is_term(term), True)
        chance = random.Random(441)
        for _ in range(200):
            self.assertIs(is_term(drawn_term(chance, 4)), True)

    def test_wrong(self):
        for value in [None, 5, "x", (), ("name",), ("name", "x", "y"), ("x",), ["name", "x"], ("name", ["x"]), ("Name", "x"), (("name",), "x"),
                      ("name", "X"), ("name", ""), ("name", "1x"), ("name", "a" * 13), ("pair", X), ("pair", X, "y"), ("pair", X, [X]),
                      ("let", "x", X, X), ("let", "x", X, X, X), ("fn", "x", X), ("fn", "x", A), ("fn", X, A, X), ("fn", "x", ("counter", "a"), X),
                      ("fn", "x", ["good", "a"], X), ("apply", X), ("left", X), ("left", A, X), ("left", X, ("both", A, B)), ("ways", X),
                      ("first",), ("first", X, X), ("third", X), ("case", X, "x", X, "y"), ("case", X, X, "x", "y", X), object(), True,
                      ("fn", "x", bushy(13, "pair"), X), ("right", X, bushy(13, "sum")), {"name": "x"}, b"name"]:
            self.assertIs(is_term(value), False, value)

    def test_words_are_no_names(self):
        for word in WORDS:
            for term in [("name", word), ("fn", word, A, X), ("let", word, "x", X, X), ("let", "x", word, X, X), ("case", X, word, X, "x", X),
                         ("case", X, "x", X, word, X)]:
                self.assertIs(is_term(term), False)
                self.assertEqual(raised(term_text, term), ("BadValue", {"value": term}))
            self.assertIs(is_term(("fn", "x", good(word), X)), True)
        self.assertIs(is_term(("name", "name")), True)
        self.assertIs(is_term(("name", "pair")), True)

    def test_one_part_wrong(self):
        chance = random.Random(442)
        for _ in range(100):
            term = drawn_term(chance, 4)
            path = chance.choice(all_paths(term))
            for wrong in [None, ("name", "in"), list(term_at(term, path)), ("pair", X)]:
                self.assertIs(is_term(with_term_at(term, path, wrong)), False)

    def test_12_and_13_deep(self):
        for term in [("fn", "x", bushy(12, "pair"), X), ("left", X, bushy(12, "sum")), ("right", X, bushy(12, "to"))]:
            self.assertIs(is_term(term), True)


class Texts(unittest.TestCase):
    def test_term_text(self):
        chance = random.Random(443)
        for term in RIGHT + [drawn_term(chance, 5) for _ in range(300)]:
            self.assertEqual(term_text(term), slow_text(term))
        for wrong in [None, ("name",), ["name", "x"], ("name", "let"), ("pair", X, 5)]:
            self.assertEqual(raised(term_text, wrong), ("BadValue", {"value": wrong}))

    def test_every_sort_at_every_place(self):
        for one in RIGHT:
            for term in [with_term_at(other, path, one) for other in RIGHT for path in all_paths(other)]:
                text = term_text(term)
                self.assertEqual(text, slow_text(term))
                self.assertEqual(read_program("; " + text), ((), term))

    def test_told(self):
        for text in ["x : a * b, f : b -> c ; let y, z = x in (f z, y)", "; fn x : a & b . first x",
                     "s : a + b ; case s of x . right(x : b + a) or y . left(y : b + a)", "x : a ; [x, (fn y : a . y) x]",
                     "; f x y", "; f (x y)", "; first (f x)", "; f first x", "; first second x y", "; (let x, y = z in x) y",
                     "; f (case x of y . y or z . z)", "; first (x, y)", "; first [x, y]", "; left(fn x : a . x : a + b)", "; f left(x : a)",
                     "; case case x of y . y or z . z of y . case y of a . a or b . b or z . let a, b = z in a b", "; let x, y = let a, b = c in d in e",
                     "; fn x : a . fn y : b . x y", "x : let -> (in * of) ; (x, [x, x])", "; (f x, fn y : a . y)", "; x (fn y : a . y) z"]:
            inputs, term = read_program(text)
            self.assertEqual(program_text(inputs, term), text)

    def test_any_spaces(self):
        chance = random.Random(444)
        programs = grown_programs(445, 250)
        self.assertEqual(len(words_in(programs)), 11)
        for inputs, term in programs:
            text = program_text(inputs, term)
            self.assertEqual(text, ", ".join(f"{name} : {slow_kind(kind)}" for name, kind in inputs) + (" ; " if inputs else "; ")
                             + slow_text(term))
            for _ in range(3):
                self.assertEqual(read_program(spaced(chance, text)), (inputs, term))
            self.assertEqual(read_program(spaced(chance, text, 0)), (inputs, term))

    def test_what_is_read_need_not_be_right(self):
        self.assertEqual(read_program("x : a, y : b ; x x"), ((("x", A), ("y", B)), ("apply", X, X)))
        self.assertEqual(read_program(";let x,x=y in z"), ((), ("let", "x", "x", Y, Z)))
        self.assertEqual(read_program("; (((x)))"), ((), X))
        self.assertEqual(read_program("; first(x)"), ((), ("first", X)))
        self.assertEqual(read_program("; ((x y) z)"), ((), ("apply", ("apply", X, Y), Z)))

    def test_60_deep(self):
        text, term = "x", X
        for k in range(60):
            text, term = [(f"({text}, y)", ("pair", term, Y)), (f"f ({text})" if k else f"f {text}", ("apply", ("name", "f"), term)),
                          (f"let x, y = z in {text}", ("let", "x", "y", Z, term)), (f"[x, {text}]", ("ways", X, term))][k % 4]
        self.assertEqual(read_program(";" + text), ((), term))
        self.assertEqual(read_program("; " + term_text(term)), ((), term))
        self.assertEqual(read_program("; " + "(" * 60 + "x" + ")" * 60), ((), X))
        term = X
        for _ in range(60):
            term = ("apply", term, Y)
        self.assertEqual(read_program("; " + term_text(term)), ((), term))


class LongestBeginnings(unittest.TestCase):
    def check(self, text, at):
        self.assertEqual(longest_of_program(text), at, text)
        if at is None:
            read_program(text)
        else:
            self.assertEqual(raised(read_program, text), ("NotAText", {"at": at}), text)

    def test_told(self):
        for text, at in [
                ("", 0), ("   ", 3), (";", 1), ("; ", 2), ("; x", None), ("x", 1), ("x :", 3), ("x : a", 5), ("x : a ;", 7), ("x : a x", 6),
                ("x : a ; fn let : b . x", 14), ("; lets", None), ("; let", 5), ("; let let", 9), ("; let let ,", 9), ("; in", 4), ("; in x", 4),
                ("; inx", None), ("; x in", 6), ("; x in y", 6), ("; x of", 6), ("; (x", 4), ("; (x in", 7), ("; (x in )", 7), ("; x let", 7),
                ("; x let y", 7), ("; x fn", 6), ("; x first", 9), ("; x first y", None), ("; first", 7), ("; first let", 11), ("; first fn x", 10),
                ("; let x, y = z i", 16), ("; let x, y = z in", 17), ("; let x, y = z of", 17), ("; let x, y = z of w", 17),
                ("; let x, y = z of w in v", 17), ("; case x in y", 11), ("; case x of y . z or", 20), ("; case x of y . z in w", 20),
                ("; case x of y . z w or z . w", None), ("; case x of y.y or z.z or w", 25), ("; case x of y.case y of z.z or z.z or w.w", None),
                ("; [x, y", 7), ("; [x]", 4), ("; [x, y, z]", 7), ("; (x, y, z)", 7), ("; ()", 3), ("; left x", 7), ("; left(x)", 8),
                ("; left(x : a)", None), ("; left (x:a)y", None), ("; leftx", None), ("; left", 6), ("; 1", 2), ("; x1", None), ("; x 1", 4),
                ("; x X", 4), ("x : a, ; x", 7), (", x : a ; x", 0), ("x a ; x", 2), ("x :: a ; x", 3), ("; x ;", 4), ("; x, y", 3),
                ("; fn x : a -> b . x", None), ("; fn x : a - b . x", 12), ("; fn x : (a) . x", 11), ("; fn x : a * b * c . x", 15),
                ("; fn x . x", 7), ("; fn x : . x", 9), ("; (fn x : a . x) y", None), ("; abcdefghijkl", None), ("; abcdefghijklm", 14),
                ("; abcdefghijkl m", None), ("; x abcdefghijklm y", 16), ("; letletletlet", None), ("; firstsecondx", None), ("x : a~ ; x", 5),
                ("x : (a * b) ; x", 12), ("; x\t", 3), ("; x\n", 3), ("\n; x", 0), ("; let x y = z in w", 8), ("; let x, y z", 11)]:
            self.check(text, at)

    def test_an_input_named_twice(self):
        for text, at in [("x : a, x : b ; x", 8), ("x : a, x", 8), ("x:a,y:b, x", 10), ("x : a, xx : b ; x", None), ("x : a, x1", 9),
                         ("abcdefghijkl : a, abcdefghijkl : b", 30), ("abcdefghijkl : a, abcdefghijklm", 30), ("x : a, x ", 8),
                         ("let : a", 3), ("x : a, in : b ; x", 9), ("x : a, xabcdefghijkl : b", 19), ("x : a, x;", 8)]:
            self.check(text, at)

    def test_texts_that_are_changed(self):
        chance = random.Random(446)
        for inputs, term in grown_programs(447, 60, most_terms=8):
            text = spaced(chance, program_text(inputs, term), 1)
            for at in range(len(text) + 1):
                self.check(text[:at], longest_of_program(text[:at]))
                sign = chance.choice("abn1;:,.=()[]*+&-> ?|~")
                changed = text[:at] + sign + text[at + chance.randrange(2):]
                self.check(changed, longest_of_program(changed))

    def test_words_put_in(self):
        chance = random.Random(448)
        for inputs, term in grown_programs(449, 40, most_terms=8):
            text = program_text(inputs, term)
            for _ in range(20):
                at = chance.randrange(len(text) + 1)
                told = text[:at] + " " + chance.choice(WORDS + ("x", "y", "n1")) + " " + text[at:]
                self.check(told, longest_of_program(told))

    def test_kinds_too_deep(self):
        deep = "a * b"
        for _ in range(12):
            deep = f"({deep}) * b"
        for text in [f"x : {deep} ; x", f"; fn x : {deep} . x", f"; left(x : {deep})", f"x : a, y : {deep} ; right(x : {deep})"]:
            self.assertEqual(raised(read_program, text), ("TooDeep", {"most": 12}))
            self.assertEqual(raised(read_program, text + " )"), ("NotAText", {"at": len(text) + 1}))
        right = deep[1:deep.rindex(")")]
        self.assertEqual(program_text(*read_program(f"x : {right} ; x")), f"x : {right} ; x")


class ProgramText(unittest.TestCase):
    def test_bad_inputs(self):
        for inputs in [None, 5, "x", {"x": A}, [("x",)], [["x", A]], [("x", A, B)], [("let", A)], [("x", ["good", "a"])], [("x", ("counter", "a"))],
                       [("x", A), ("x", B)], [("x", A), ("y", B), ("x", A)], [("x", bushy(13, "pair"))], [None], [("X", A)], [("a" * 13, A)],
                       (("x", A), ("x", A)), [A]]:
            self.assertEqual(raised(program_text, inputs, 5), ("BadValue", {"value": inputs}))
        for term in [None, ("name", "let"), ["name", "x"], ("pair", X)]:
            self.assertEqual(raised(program_text, [("x", A)], term), ("BadValue", {"value": term}))

    def test_lists_and_tuples(self):
        inputs = [("x", A), ("y", SUM)]
        self.assertEqual(program_text(inputs, X), "x : a, y : a + b ; x")
        self.assertEqual(program_text(tuple(inputs), X), program_text(inputs, X))
        self.assertEqual(program_text([], X), "; x")
        self.assertEqual(read_program("x : a, y : a + b ; x"), (tuple(inputs), X))

    def test_no_string(self):
        for value in [None, 5, b"; x", ["; x"], True]:
            self.assertEqual(raised(read_program, value), ("BadValue", {"value": value}))


if __name__ == "__main__":
    unittest.main()
