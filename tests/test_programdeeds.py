"""[50], [90]: the deed of a program."""
import random
import unittest

from alldeeds.checking import Program
from alldeeds.deeds import Deed, plain_deed
from alldeeds.likeness import alike
from alldeeds.meanings import meaning_of
from alldeeds.programdeeds import deed_of_program
from alldeeds.programtexts import read_program
from alldeeds.wired import wirings_of
from growing import all_paths, form_of, grown_programs, kind_leaves, parts_of, program_meaning, random_kind, term_at, words_in
from making import bushy, counter_of, good, leaf_list, names_in, raised

A, B = good("a"), good("b")
X = ("name", "x")


def program(text):
    return Program(*read_program(text))


def told_ends(inputs, kind):
    return tuple(counter_of(form_of(one)) for _, one in inputs) + (form_of(kind),)


class Told:
    """The steps of a term as the document tells them, with the labels of their ends."""

    def __init__(self, steps, labels):
        self.steps = steps
        self.labels = list(labels)

    def ordered(self, labels):
        return ("turn", self.steps, tuple(self.labels.index(label) for label in labels))

    def at(self, label):
        return self.labels.index(label)

    def but(self, *gone):
        return [label for label in self.labels if label not in gone]


def identity(form, label):
    return Told(plain_deed(counter_of(form)).steps, [label, "OWN"])


def handed(one, other, label):
    return Told(("hand", one.steps, other.steps, one.at("OWN"), other.at(label)), one.but("OWN") + other.but(label))


def told_steps(whole, term, path=()):
    """[50], word by word."""
    word = term[0]
    parts = [told_steps(whole, part, path + (k,)) for k, part in enumerate(parts_of(term))]
    if word == "name":
        return identity(form_of(whole.kind_at(path)), term[1])
    if word == "pair":
        one, other = parts
        return Told(("both", one.steps, other.steps, one.at("OWN"), other.at("OWN")), one.but("OWN") + other.but("OWN") + ["OWN"])
    if word == "fn":
        one, = parts
        return Told(("between", one.steps, one.at(term[1]), one.at("OWN")), one.but("OWN", term[1]) + ["OWN"])
    if word == "let":
        one, other = parts
        x, y = term[1:3]
        return handed(one, Told(("between", other.steps, other.at(x), other.at(y)), other.but(x, y) + ["MADE"]), "MADE")
    if word == "apply":
        one, other = parts
        more = identity(form_of(whole.kind_at(path)), "NAME")
        both = Told(("both", other.steps, more.steps, other.at("OWN"), 0), other.but("OWN") + ["OWN", "MADE"])
        return handed(one, both, "MADE")
    if word in ("left", "right"):
        one, = parts
        side = ("left", "right").index(word)
        return Told(("choose", one.steps, one.at("OWN"), side, form_of(term[2][2 - side])), one.but("OWN") + ["OWN"])
    if word == "case":
        one, left, right = parts
        x, y = term[2], term[4]
        rest = left.but(x)
        offer = ("offer", left.ordered(rest + [x]), right.ordered(rest + [y]), len(rest), len(rest))
        return handed(one, Told(offer, rest + ["MADE"]), "MADE")
    if word == "ways":
        one, other = parts
        rest = one.but("OWN")
        return Told(("offer", one.ordered(rest + ["OWN"]), other.ordered(rest + ["OWN"]), len(rest), len(rest)), rest + ["OWN"])
    one, = parts
    side = ("first", "second").index(word)
    kind = whole.kind_at(path + (0,))
    more = identity(form_of(kind[1 + side]), "NAME")
    return handed(one, Told(("choose", more.steps, 0, side, counter_of(form_of(kind[2 - side]))), ["OWN", "MADE"]), "MADE")


def told_deed(whole):
    labels = [name for name, _ in whole.inputs] + ["OWN"]
    return Deed(told_steps(whole, whole.term).ordered(labels))


class DeedOfProgram(unittest.TestCase):
    def test_ends(self):
        for inputs, term in grown_programs(461, 200):
            whole = Program(inputs, term)
            deed = deed_of_program(whole)
            self.assertIsInstance(deed, Deed)
            self.assertEqual(deed.ends, told_ends(inputs, whole.kind))

    def test_meaning(self):
        """For all entries over two things: the results are what comes of the term."""
        programs = grown_programs(462, 250, most_terms=12, most_leaves=9)
        self.assertEqual(len(words_in(programs)), 11)
        for inputs, term in programs:
            deed = deed_of_program(Program(inputs, term))
            sets = {name: 2 for end in deed.ends for name in names_in(end)}
            self.assertEqual(meaning_of(wirings_of(deed), sets), program_meaning(inputs, term, sets))

    def test_as_the_document_makes_it(self):
        told = 0
        for inputs, term in grown_programs(463, 400, most_terms=25, most_leaves=16):
            whole = Program(inputs, term)
            kinds = [whole.kind_at(path) for path in all_paths(term) if term_at(term, path)[0] in ("name", "apply", "first", "second")]
            if sum(kind_leaves(kind) for kind in kinds) <= 60:
                told += 1
                self.assertTrue(alike(deed_of_program(whole), told_deed(whole)))
        self.assertGreater(told, 300)

    def test_told(self):
        for text, rows in [("x : a ; x", ["0-1"]), ("x : a * b ; let y, z = x in (z, y)", ["0-3 1-2"]), ("; fn x : a . x", ["0-1"]),
                           ("x : a, y : b ; (y, x)", ["0-3 1-2"]), ("x : a ; [x, x]", ["at 0 left 0-1", "at 0 right 0-2"]),
                           ("x : a & b ; second x", ["at 0 right 1-2"]), ("x : a ; right(x : b + a)", ["at 0 right 0-2"]),
                           ("f : a -> b, x : a ; f x", ["0-2 1-3"]), ("x : a + b ; case x of y . right(y : b + a) or y . left(y : b + a)",
                                                                     ["at 0 left 1 right 0-3", "at 0 right 1 left 1-2"])]:
            found = []
            for choice, links in wirings_of(deed_of_program(program(text))).wirings:
                words = [f"{fork} {('left', 'right')[side]}" for fork, side in choice]
                found.append(" ".join((["at"] if words else []) + words + [f"{i}-{j}" for i, j in links]))
            self.assertEqual(found, rows, text)

    def test_names_used_in_any_order(self):
        """The parts of a case and of ways may use their names in unlike orders."""
        for text in ["x : a, y : b, z : a ; [(x, (y, z)), ((z, y), x)]", "s : a + a, x : a, y : a ; case s of u . (u, (x, y)) or v . (y, (v, x))",
                     "s : a + a, x : a, y : a ; ([(s, (x, y)), (y, (s, x))], fn z : a . z)"]:
            inputs, term = read_program(text)
            deed = deed_of_program(Program(inputs, term))
            sets = {"a": 2, "b": 2}
            self.assertEqual(meaning_of(wirings_of(deed), sets), program_meaning(inputs, term, sets))

    def test_40_and_41_leaves(self):
        wide = bushy(4, "pair")
        kind = ("pair", wide, bushy(2, "pair"))
        most = Program([("x", kind)], X)
        self.assertEqual(len(leaf_list(deed_of_program(most).ends)), 40)
        more = Program([("x", kind)], ("left", X, ("sum", kind, A)))
        self.assertEqual(sum(kind_leaves(told) for told in (kind, more.kind)), 41)
        self.assertEqual(raised(deed_of_program, more), ("TooMany", {"most": 40}))
        huge = Program([("x", bushy(9, "pair"))], X)
        self.assertEqual(raised(deed_of_program, huge), ("TooMany", {"most": 40}))

    def test_40_terms(self):
        """Programs with 40 terms, and with kinds of 60 leaves at the places where these count."""
        term = X
        for k in range(19):
            term = ("apply", ("name", f"f{k}"), term)
        inputs = [("x", A)] + [(f"f{k}", ("to", A, A)) for k in range(19)]
        self.assertEqual(len(all_paths(term)), 39)
        deed = deed_of_program(Program(inputs, term))
        self.assertEqual(len(leaf_list(deed.ends)), 40)
        self.assertEqual(len(wirings_of(deed).wirings), 1)
        kind = bushy(4, "sum")
        case = Program([("x", kind)], ("case", X, "y", ("left", ("name", "y"), kind), "z", ("right", ("name", "z"), kind)))
        self.assertTrue(alike(deed_of_program(case), deed_of_program(Program([("x", kind)], X))))

    def test_drawn_kinds(self):
        chance = random.Random(464)
        for _ in range(60):
            kind = random_kind(chance, 3)
            if kind_leaves(kind) <= 12:
                for term in [X, ("apply", ("fn", "y", kind, ("name", "y")), X), ("first", ("ways", X, X))]:
                    deed = deed_of_program(Program([("x", kind)], term))
                    self.assertTrue(alike(deed, plain_deed(counter_of(form_of(kind)))))

    def test_bad_value(self):
        for wrong in [None, 5, "x : a ; x", Deed(("link", "a")), ((("x", A),), X), Program]:
            self.assertEqual(raised(deed_of_program, wrong), ("BadValue", {"value": wrong}))


if __name__ == "__main__":
    unittest.main()
