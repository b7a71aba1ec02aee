"""[47], [48], [49], [89]: programs, and the first wrong term."""
import random
import unittest

from alldeeds.checking import Program
from alldeeds.errors import BadValue
from alldeeds.programtexts import program_text, read_program
from growing import SLOTS, all_paths, grown_programs, kind_depth, random_kind, term_at, with_parts, with_term_at, words_in
from making import bushy, good, raised

A, B = good("a"), good("b")
X, Y = ("name", "x"), ("name", "y")


class Wrong(Exception):
    pass


def seen(term, path, sight, used, notes):
    """The kind of a term and the set of the names in sight that it uses; raises Wrong with the path of a wrong one."""
    def part(number, names, more):
        return seen([t for s, t in zip(SLOTS[term[0]], term[1:]) if s == "t"][number], path + (number,), {**sight, **names}, used | more, notes)

    def claim(holds):
        if not holds:
            raise Wrong(path)

    word, rest = term[0], term[1:]
    bound = [] if word == "name" else [told for slot, told in zip(SLOTS[word], rest) if slot == "n"]
    claim(not set(bound) & set(sight))
    claim(word != "let" or len(set(bound)) == 2)
    if word == "name":
        claim(rest[0] in sight and rest[0] not in used)
        kind, names = sight[rest[0]], {rest[0]}
    elif word in ("pair", "apply"):
        one, names = part(0, {}, set())
        other, more = part(1, {}, names)
        names = names | more
        claim(word == "pair" or one[0] == "to" and one[1] == other)
        kind = ("pair", one, other) if word == "pair" else one[2]
    elif word == "let":
        one, names = part(0, {}, set())
        claim(one[0] == "pair")
        kind, more = part(1, dict(zip(bound, one[1:])), names)
        claim(set(bound) <= more)
        names = names | more - set(bound)
    elif word == "fn":
        other, more = part(0, {rest[0]: rest[1]}, set())
        claim(rest[0] in more)
        kind, names = ("to", rest[1], other), more - {rest[0]}
    elif word in ("left", "right"):
        one, names = part(0, {}, set())
        kind = rest[1]
        claim(kind[0] == "sum" and kind[1:][("left", "right").index(word)] == one)
    elif word == "case":
        one, names = part(0, {}, set())
        claim(one[0] == "sum")
        kind, left = part(1, {bound[0]: one[1]}, names)
        other, right = part(2, {bound[1]: one[2]}, names)
        claim(bound[0] in left and bound[1] in right and left - {bound[0]} == right - {bound[1]} and kind == other)
        names = names | left - {bound[0]}
    elif word == "ways":
        one, names = part(0, {}, set())
        other, more = part(1, {}, set())
        claim(names == more)
        kind = ("offer", one, other)
    else:
        one, names = part(0, {}, set())
        claim(one[0] == "offer")
        kind = one[1:][("first", "second").index(word)]
    claim(kind_depth(kind) <= 12)
    notes[path] = (kind, tuple(sorted(names)))
    return kind, names


def first_wrong(inputs, term):
    """The path of the first wrong term, None if the program is right; and the kinds and names of all terms that are right."""
    notes = {}
    try:
        names = seen(term, (), dict(inputs), set(), notes)[1]
    except Wrong as error:
        return error.args[0], notes
    return (None if names == {name for name, _ in inputs} else ()), notes


def changed(chance, inputs, term):
    """The program with one thing in it changed."""
    names = [name for name, _ in inputs] + [told for path in all_paths(term) for slot, told in zip(
        SLOTS[term_at(term, path)[0]], term_at(term, path)[1:]) if slot == "n"] + ["free"]
    path = chance.choice(all_paths(term))
    here = term_at(term, path)
    way = chance.randrange(6)
    if way == 0:
        slots = [k for k, slot in enumerate(SLOTS[here[0]]) if slot == "n"]
        if slots:
            k = chance.choice(slots) + 1
            here = here[:k] + (chance.choice(names),) + here[k + 1:]
    elif way == 1:
        here = term_at(term, chance.choice(all_paths(term)))
    elif way == 2:
        here = ("name", chance.choice(names))
    elif way == 3:
        here = chance.choice([("first", here), ("second", here), ("pair", here, here), ("ways", here, here), ("left", here, ("sum", A, B)),
                              ("fn", "free", A, here), ("let", "free", "more", here, here), ("apply", here, here)])
    elif way == 4:
        parts = [told for slot, told in zip(SLOTS[here[0]], here[1:]) if slot == "t"]
        here = with_parts(here, parts[::-1])
    elif inputs:
        k = chance.randrange(len(inputs))
        one = chance.choice([(), ((inputs[k][0], random_kind(chance, 2)),), (inputs[k], ("free", A))])
        return inputs[:k] + one + inputs[k + 1:], term
    return inputs, with_term_at(term, path, here)


class Right(unittest.TestCase):
    def test_drawn(self):
        programs = grown_programs(451, 600, most_terms=20, most_leaves=20)
        self.assertEqual(len(words_in(programs)), 11)
        for inputs, term in programs:
            program = Program(inputs, term)
            wrong, notes = first_wrong(inputs, term)
            self.assertIsNone(wrong)
            self.assertEqual((program.inputs, program.term, program.kind), (inputs, term, notes[()][0]))
            self.assertEqual(program.text(), program_text(inputs, term))
            self.assertEqual(sorted(notes), sorted(all_paths(term)))
            for path in all_paths(term):
                self.assertEqual((program.kind_at(path), program.names_at(path)), notes[path])

    def test_kinds(self):
        for text, kind in [("x : a ; x", A), ("; fn x : a . x", ("to", A, A)), ("x : a, y : b ; (x, y)", ("pair", A, B)),
                           ("x : a ; [x, x]", ("offer", A, A)), ("x : a & b ; second x", B), ("x : a ; right(x : b + a)", ("sum", B, A)),
                           ("f : a -> b, x : a ; f x", B), ("x : a + b ; case x of y . right(y : b + a) or y . left(y : b + a)", ("sum", B, A)),
                           ("x : a * b ; let y, z = x in (z, y)", ("pair", B, A)), ("x : a ; (fn y : a . y) x", A)]:
            self.assertEqual(Program(*read_program(text)).kind, kind)

    def test_names_used_once_on_each_way(self):
        for text in ["x : a, y : b ; [(x, y), (y, x)]", "s : a + a, y : b ; case s of x . (x, y) or z . (z, y)",
                     "s : a + a ; case s of x . x or x . x", "x : a ; ([(fn y : a . y) x, x], fn y : a . y)",
                     "s : a + a, t : a + a ; case s of x . case t of y . (x, y) or z . (x, z) or x . case t of z . (z, x) or y . (x, y)",
                     "x : a * a, y : a * a ; (let u, v = x in (u, v), let u, v = y in (v, u))",
                     "x : a ; [[x, x], [x, [x, x]]]"]:
            inputs, term = read_program(text)
            self.assertEqual(first_wrong(inputs, term)[0], None)
            self.assertEqual(Program(inputs, term).inputs, inputs)

    def test_12_and_13_deep(self):
        deep = bushy(11, "pair")
        most = bushy(12, "pair")
        for inputs, term in [((("x", deep), ("y", A)), ("pair", X, Y)), ((("x", deep),), ("ways", X, X)), ((), ("fn", "x", deep, X))]:
            self.assertEqual(kind_depth(Program(inputs, term).kind), 12)
        for inputs, term, path in [
                ((("x", most), ("y", A)), ("pair", X, Y), ()), ((("x", most),), ("ways", X, X), ()), ((), ("fn", "x", most, X), ()),
                ((("x", most), ("y", A)), ("pair", Y, ("ways", X, X)), (1,)), ((("x", most),), ("first", ("ways", X, X)), (0,))]:
            self.assertEqual(raised(Program, inputs, term), ("WrongTerm", {"path": path}))
        self.assertEqual(Program([("x", most)], X).kind, most)
        self.assertEqual(Program([("x", most)], ("let", "y", "z", X, ("pair", ("name", "z"), Y))).kind, most)

    def test_inputs_are_kept(self):
        inputs = [("x", A)]
        program = Program(inputs, X)
        inputs.append(None)
        self.assertEqual(program.inputs, (("x", A),))
        self.assertIsInstance(program.inputs, tuple)

    def test_equality(self):
        one, other = Program([("x", A)], X), Program((("x", A),), X)
        self.assertTrue(one == other)
        for wrong in [Program([("x", B)], X), Program([("y", A)], Y), Program([("x", A)], ("apply", ("fn", "y", A, Y), X)), X, None, one.text(),
                      (one.inputs, one.term), BadValue(one)]:
            self.assertFalse(one == wrong)
            self.assertTrue(one != wrong)
        inputs = (("x", A), ("y", B))
        self.assertFalse(Program(inputs, ("pair", X, Y)) == Program(inputs[::-1], ("pair", X, Y)))


class FirstWrong(unittest.TestCase):
    def check(self, text, path):
        inputs, term = read_program(text)
        self.assertEqual(first_wrong(inputs, term)[0], path, text)
        self.assertEqual(raised(Program, inputs, term), ("WrongTerm", {"path": path}), text)

    def test_each_way_to_be_wrong(self):
        for text, path in [
                # names that are bound
                ("x : a ; (fn x : a . x) x", (0,)), ("x : a * a ; let x, y = x in (x, y)", ()), ("x : a * a ; let y, x = x in (x, y)", ()),
                ("x : a * a ; let y, y = x in y", ()), ("x : a + a ; case x of x . x or y . y", ()), ("x : a + a ; case x of y . y or x . x", ()),
                ("x : a ; fn y : b . fn y : b . (x, y)", (0,)), ("x : a, z : b ; (x, (fn x : b . x) z)", (1, 0)),
                # names
                ("; x", ()), ("x : a ; (x, y)", (1,)), ("x : a ; (x, x)", (1,)), ("x : a ; (y, x)", (0,)), ("x : a ; (fn y : a . y, (y, x))", (1, 0)),
                ("x : a * a ; let y, z = x in ((y, z), y)", (1, 1)), ("x : a ; ([x, x], x)", (1,)), ("s : a + a ; (case s of y . y or z . z, s)", (1,)),
                ("s : a + a ; case s of y . y or z . (z, y)", (2, 1)), ("s : a + a ; case s of y . (y, s) or z . (z, s)", (1, 1)),
                ("x : a * a ; (let y, z = x in (y, z), y)", (1,)),
                # names that are not used
                ("; fn x : a . fn y : b . y", ()), ("x : a * a ; let y, z = x in y", ()), ("x : a * a ; let y, z = x in z", ()),
                ("x : a, s : a + a ; case s of y . x or z . (fn w : a . w) z", ()), ("s : a + a, x : a ; case s of y . y or z . x", ()),
                # ways
                ("x : a ; [x, fn y : a . y]", ()), ("x : a, y : a ; [x, y]", ()), ("x : a, y : a ; ([x, (x, y)], y)", (0,)),
                ("s : a + a, x : b ; (case s of y . (y, x) or z . z, x)", (0,)), ("s : a + a, x : b ; case s of y . y or z . (z, x)", ()),
                # kinds
                ("x : a ; let y, z = x in (y, z)", ()), ("x : a + a ; let y, z = x in (y, z)", ()), ("x : a * a ; case x of y . y or z . z", ()),
                ("x : a ; case x of y . y or z . z", ()), ("f : a, x : a ; f x", ()), ("f : a -> b, x : b ; f x", ()), ("f : a -> b, x : b ; x f", ()),
                ("f : a * b, x : a ; f x", ()), ("x : a ; left(x : b)", ()), ("x : a ; left(x : b + a)", ()), ("x : a ; right(x : a + b)", ()),
                ("x : a ; left(x : a * b)", ()), ("x : a ; right(x : b & a)", ()), ("x : a + b ; case x of y . y or z . z", ()), ("x : a ; first x", ()),
                ("x : a * a ; second x", ()), ("x : a + a ; first x", ()), ("x : a -> a ; second x", ()),
                # the whole program
                ("x : a, y : b ; x", ()), ("x : a ; fn y : b . y", ())]:
            self.check(text, path)

    def test_at_several_places(self):
        """Each wrong term, put into a right program at each place where it does not make another one wrong ahead."""
        wrongs = ["(y, y)", "first x", "left(x : b)", "fn x : a . x", "zz", "[x, w]"]
        for text in wrongs:
            term = read_program("; " + text)[1]
            for around in ["fn w : a . %s", "(w, %s)", "(%s, w)", "w %s", "%s w", "[%s, w]", "[w, %s]", "first %s", "second %s", "left(%s : a + a)",
                           "let u, v = %s in w", "let u, v = p in %s", "case %s of u . w or v . w", "case s of u . %s or v . w", "case s of u . u or v . %s",
                           "let u, v = p in (u, (v, %s))", "case s of u . (u, %s) or v . (v, w)"]:
                inputs, told = read_program("x : a, y : b, w : a, p : a * a, s : a + a ; " + around.replace("%s", "(" + text + ")"))
                self.assertIn(term, [term_at(told, path) for path in all_paths(told)])
                path = first_wrong(inputs, told)[0]
                self.assertIsNotNone(path)
                self.assertEqual(raised(Program, inputs, told), ("WrongTerm", {"path": path}))

    def test_two_at_once(self):
        """The names that a term binds, its parts in order, the term itself; of let and case the first part's kind ahead of the others."""
        for text, path in [
                ("; fn x : a . fn x : a . y", (0,)), ("; (y, z)", (0,)), ("x : a ; (first x, y)", (0,)), ("x : a ; (x, first y)", (1, 0)),
                ("x : a ; let y, z = x in w", ()), ("x : a ; let y, z = first x in w", (0,)), ("x : a * a ; let y, z = x in w", (1,)),
                ("x : a * a ; let y, z = x in (y, w)", (1, 1)), ("x : a ; let x, z = w in w", ()), ("x : a ; let z, z = w in w", ()),
                ("x : a ; case x of y . w or z . w", ()), ("x : a ; case w of y . w or z . w", (0,)), ("x : a + a ; case x of y . w or z . v", (1,)),
                ("x : a + a ; case x of y . y or z . v", (2,)), ("x : a + a ; case x of y . (fn u : a . u) or z . v", (2,)),
                ("x : a + a ; case x of x . w or z . v", ()), ("x : a ; [first x, w]", (0,)), ("x : a ; [x, w]", (1,)), ("x : a, y : b ; [x, first y]", (1,)),
                ("x : a ; x x", (1,)), ("x : a ; (first x) x", (0,)), ("x : a ; left(w : b)", (0,)), ("x : a, y : b ; (y, y)", (1,)),
                ("x : a, y : b ; first x", ()), ("f : a -> b, x : a ; f (x, w)", (1, 1)), ("; fn x : a . (x, (x, y))", (0, 1, 0)),
                ("; (fn x : a . y, z)", (0, 0)), ("x : a, y : a ; ([x, y], first x)", (0,))]:
            self.check(text, path)

    def test_programs_that_are_changed(self):
        chance = random.Random(452)
        paths = set()
        for inputs, term in grown_programs(453, 400, most_terms=16, most_leaves=16):
            for _ in range(8):
                told = changed(chance, *changed(chance, inputs, term)) if chance.random() < 0.4 else changed(chance, inputs, term)
                if len({name for name, _ in told[0]}) < len(told[0]):
                    continue
                wrong, notes = first_wrong(*told)
                paths.add(wrong)
                if wrong is None:
                    self.assertEqual(Program(*told).kind, notes[()][0])
                else:
                    self.assertEqual(raised(Program, *told), ("WrongTerm", {"path": wrong}))
        self.assertGreater(len(paths), 30)

    def test_the_path_is_a_tuple(self):
        self.assertEqual(raised(Program, [], ("pair", X, X))[1]["path"], (0,))
        self.assertIsInstance(raised(Program, [], X)[1]["path"], tuple)


class Paths(unittest.TestCase):
    def test_paths_that_lead_nowhere(self):
        program = Program(*read_program("x : a * b ; let y, z = x in (z, y)"))
        for path in [(2,), (-1,), (1, 2), (0, 0), (1, 0, 0), (True,), (0.0,), ("0",), None, 0, "", "0", (None,), ((0,),), {0: 1}, (1, True), (0,) * 50,
                     (1, [0]), (10 ** 30,)]:
            for call in (program.kind_at, program.names_at):
                self.assertEqual(raised(call, path), ("BadValue", {"value": path}))

    def test_told(self):
        program = Program(*read_program("s : a + a, x : a ; case s of y . [(y, x), (x, y)] or z . [(z, x), (x, z)]"))
        self.assertEqual(program.names_at(()), ("s", "x"))
        self.assertEqual((program.names_at((0,)), program.names_at((1,)), program.names_at((2,))), (("s",), ("x", "y"), ("x", "z")))
        self.assertEqual((program.names_at((1, 0)), program.names_at((1, 1, 0))), (("x", "y"), ("x",)))
        self.assertEqual((program.kind_at((0,)), program.kind_at((2, 1))), (("sum", A, A), ("pair", A, A)))
        self.assertEqual(program.kind_at([2, 1]), program.kind_at((2, 1)))
        self.assertEqual(program.names_at([]), program.names_at(()))

    def test_names_bound_within_are_not_in_sight(self):
        program = Program(*read_program("; fn x : a * b . let y, z = x in (z, y)"))
        self.assertEqual([program.names_at(path) for path in [(), (0,), (0, 0), (0, 1), (0, 1, 0)]], [(), ("x",), ("x",), ("y", "z"), ("z",)])


class BadValues(unittest.TestCase):
    def test_inputs_and_term(self):
        for inputs in [None, 5, [("x",)], [["x", A]], [("let", A)], [("x", A), ("x", A)], {"x": A}, [("x", bushy(13, "pair"))]]:
            self.assertEqual(raised(Program, inputs, None), ("BadValue", {"value": inputs}))
        for term in [None, "x", ["name", "x"], ("name", "in"), ("pair", X), ("fn", "x", ("both", A, A), X)]:
            self.assertEqual(raised(Program, [("x", A)], term), ("BadValue", {"value": term}))
        self.assertEqual(raised(Program, [("x", A)], ("pair", Y, ("name", "of")))[0], "BadValue")


if __name__ == "__main__":
    unittest.main()
