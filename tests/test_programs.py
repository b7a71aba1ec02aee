"""[52], [53], [92]: programs by what they do."""
import itertools
import random
import unittest

from alldeeds.checking import Program
from alldeeds.deeds import Deed
from alldeeds.likeness import alike
from alldeeds.programdeeds import deed_of_program
from alldeeds.programs import alike_programs, composed, parting_programs, plain_program, results
from alldeeds.programtexts import read_program
from growing import Grower, all_paths, form_of, grown_programs, names_of, renamed, slow_results, term_at, with_term_at
from making import bushy, form_entries, good, names_in, raised

A, B = good("a"), good("b")
X = ("name", "x")
BIG = 10 ** 20


def program(text):
    return Program(*read_program(text))


def forms_of(whole):
    return [form_of(kind) for _, kind in whole.inputs] + [form_of(whole.kind)]


def all_goods(whole):
    return sorted({name for form in forms_of(whole) for name in names_in(form)})


def given_entries(whole, sets):
    return list(itertools.product(*[form_entries(form, sets) for form in forms_of(whole)[:-1]]))


def small_programs(seed, many, most_terms=10, most_leaves=9):
    return [Program(*told) for told in grown_programs(seed, many, most_terms, most_leaves)]


class PlainProgram(unittest.TestCase):
    def test_facts(self):
        for whole in small_programs(481, 250):
            plain = plain_program(whole)
            self.assertIsInstance(plain, Program)
            self.assertEqual([kind for _, kind in plain.inputs], [kind for _, kind in whole.inputs])
            self.assertEqual(plain.kind, whole.kind)
            self.assertIs(alike_programs(whole, plain), True)
            self.assertEqual(plain_program(plain), plain)
            self.assertEqual([name for name, _ in plain.inputs], [f"x{k + 1}" for k in range(len(plain.inputs))])

    def test_told(self):
        for text, plain in [
                ("x : a ; (fn y : a . y) x", "x1 : a ; x1"), ("x : a + a ; case x of y . y or z . (fn w : a . w) z", "x1 : a + a ; case x1 of y1 . y1 or y2 . y2"),
                ("p : a * b ; p", "x1 : a * b ; let y1, y2 = x1 in (y1, y2)"), ("f : a -> b ; f", "x1 : a -> b ; fn y1 : a . x1 y1"),
                ("x : a ; first [x, x]", "x1 : a ; x1"), ("x : a & b ; x", "x1 : a & b ; [first x1, second x1]"),
                ("x : a ; let y, z = (x, fn w : b . w) in (z, y)", "x1 : a ; (fn y1 : b . y1, x1)"),
                ("x : a ; case left(x : a + a) of y . y or z . z", "x1 : a ; x1")]:
            self.assertEqual(plain_program(program(text)).text(), plain)

    def test_too_many_leaves(self):
        wide = Program([("x", bushy(5, "pair"))], X)
        self.assertEqual(raised(plain_program, wide), ("TooMany", {"most": 40}))

    def test_too_many_wirings(self):
        self.assertEqual(raised(plain_program, wide_program(11)), ("TooMany", {"most": 2000}))
        self.assertEqual(raised(alike_programs, wide_program(11), wide_program(11)), ("TooMany", {"most": 2000}))
        self.assertEqual(raised(parting_programs, wide_program(11), wide_program(11)), ("TooMany", {"most": 2000}))
        self.assertEqual(raised(results, wide_program(11), {"a": 1}, [0] * 11), ("TooMany", {"most": 2000}))
        self.assertEqual(results(wide_program(3), {"a": 1}, [0] * 3), [((0, 0), 0)])


def wide_program(many):
    """The program of so many goods, each of which is offered and chosen within."""
    term = None
    for k in range(many):
        one = ("ways", ("name", f"n{k}"), ("name", f"n{k}"))
        term = one if term is None else ("pair", term, one)
    body = ("first", ("name", "p0"))
    kind = ("offer", A, A)
    for k in range(1, many):
        body = ("pair", body, ("first", ("name", f"p{k}")))
    kinds = [kind]
    for _ in range(1, many):
        kinds.append(("pair", kinds[-1], kind))
    told = body
    for k in range(1, many):
        rest = ("name", f"r{k + 1}") if k < many - 1 else term
        left = f"p{0}" if k == 1 else f"r{k}"
        told = ("let", left, f"p{k}", rest, told)
    return Program([(f"n{k}", A) for k in range(many)], told)


class Alikeness(unittest.TestCase):
    def test_drawn_pairs(self):
        """Alike exactly if the plain programs are equal, and if they have the same results."""
        table = {}
        for whole in small_programs(482, 900, 8, 7):
            table.setdefault((tuple(kind for _, kind in whole.inputs), whole.kind), []).append(whole)
        answers = []
        for wholes in table.values():
            for one, other in list(itertools.combinations(wholes, 2))[:40]:
                same = self.same_results(one, other)
                answers.append(same)
                self.assertIs(alike_programs(one, other), same)
                self.assertIs(plain_program(one) == plain_program(other), same)
                self.check_parting(one, other, same)
        self.assertGreater(answers.count(True), 20)
        self.assertGreater(answers.count(False), 20)

    def same_results(self, one, other):
        sets = {name: 2 for name in all_goods(one)}
        return all(slow_results(one.inputs, one.term, sets, given) == slow_results(other.inputs, other.term, sets, given)
                   for given in given_entries(one, sets))

    def check_parting(self, one, other, same):
        parting = parting_programs(one, other)
        if same:
            self.assertIsNone(parting)
            return
        which, entry = parting
        sets = {name: 2 for name in all_goods(one)}
        has = [entry[-1] in slow_results(whole.inputs, whole.term, sets, entry[:-1]) for whole in (one, other)]
        self.assertEqual(has, [which == 0, which == 1])

    def test_unlike(self):
        for one, other in [("x : a ; x", "x : b ; x"), ("x : a, y : b ; (x, y)", "y : b, x : a ; (x, y)"), ("x : a, y : b ; (x, y)", "x : a, y : b ; (y, x)"),
                           ("; fn x : a . x", "x : a ; x"), ("x : a ; left(x : a + b)", "x : a ; left(x : a + a)")]:
            for call in (alike_programs, parting_programs):
                self.assertEqual(raised(call, program(one), program(other)), ("Unlike", {}))

    def test_names_of_inputs_mean_nothing(self):
        self.assertIs(alike_programs(program("x : a, y : a ; (x, y)"), program("y : a, x : a ; (y, x)")), True)
        self.assertIs(alike_programs(program("x : a, y : a ; (x, y)"), program("x : a, y : a ; (y, x)")), False)

    def test_the_order_of_errors(self):
        wide = Program([("x", bushy(5, "pair"))], X)
        small = program("x : a ; x")
        for call in (alike_programs, parting_programs):
            self.assertEqual(raised(call, None, 5), ("BadValue", {"value": None}))
            self.assertEqual(raised(call, wide, 5), ("BadValue", {"value": 5}))
            self.assertEqual(raised(call, wide, small), ("Unlike", {}))
            self.assertEqual(raised(call, wide, wide), ("TooMany", {"most": 40}))


class Results(unittest.TestCase):
    def test_drawn(self):
        chance = random.Random(483)
        counts = set()
        for whole in small_programs(484, 250, 10, 8):
            sets = {name: chance.randrange(1, 4) for name in all_goods(whole)}
            every = given_entries(whole, sets)
            for given in chance.sample(every, min(len(every), 5)):
                found = results(whole, sets, list(given))
                self.assertIsInstance(found, list)
                self.assertEqual(found, slow_results(whole.inputs, whole.term, sets, given))
                counts.add(min(len(found), 3))
        self.assertEqual(counts, {0, 1, 2, 3})

    def test_told(self):
        for text, sets, given, right in [
                ("x : a * b ; let y, z = x in (z, y)", {"a": 2, "b": 2}, [(0, 1)], [(1, 0)]),
                ("f : a -> b, x : a ; f x", {"a": 2, "b": 2}, [(0, 1), 0], [1]), ("f : a -> b, x : a ; f x", {"a": 2, "b": 2}, [(0, 1), 1], []),
                ("; fn x : a . x", {"a": 3}, [], [(0, 0), (1, 1), (2, 2)]), ("x : a ; [x, x]", {"a": 3}, [2], [(0, 2), (1, 2)]),
                ("x : a & b ; first x", {"a": 3, "b": 1}, [(0, 2)], [2]), ("x : a & b ; first x", {"a": 3, "b": 1}, [(1, 0)], []),
                ("x : a + b ; x", {"a": 1, "b": 2}, [(1, 1)], [(1, 1)])]:
            self.assertEqual(results(program(text), sets, given), right)
            self.assertEqual(results(program(text), sets, tuple(given)), right)

    def test_new_each_time(self):
        whole = program("x : a ; [x, x]")
        first = results(whole, {"a": 1}, [0])
        first.append(5)
        self.assertEqual(results(whole, {"a": 1}, [0]), [(0, 0), (1, 0)])

    def test_wrong_sets_and_entries(self):
        whole = program("x : a * b ; x")
        for sets in [None, {}, {"a": 1}, {"a": 1, "b": 0}, {"a": 4, "b": 1}, {"a": True, "b": 1}, {"a": 1, "b": BIG}, [("a", 1), ("b", 1)]]:
            self.assertEqual(raised(results, whole, sets, None), ("BadValue", {"value": sets}))
        sets = {"a": 2, "b": 2, "c": 0}
        for given in [None, 5, [], [(0, 0), (0, 0)], [0], [(0, 2)], [[0, 0]], ((0, True),), [(0, 0, 0)], {0: 0}, "x", [None], [(0, -1)]]:
            self.assertEqual(raised(results, whole, sets, given), ("BadValue", {"value": given}))
        self.assertEqual(raised(results, None, None, None), ("BadValue", {"value": None}))
        # a good that no end has is not asked for
        self.assertEqual(results(program("x : a ; (fn y : a . y) x"), {"a": 1}, [0]), [0])

    def test_too_many(self):
        """The leaves behind wrong values; the entries behind the wirings."""
        wide = Program([("x", bushy(5, "pair"))], X)
        self.assertEqual(raised(results, wide, {"a": 4}, None), ("BadValue", {"value": {"a": 4}}))
        self.assertEqual(raised(results, wide, {"a": 1}, [0]), ("BadValue", {"value": [0]}))
        entry = 0
        for _ in range(5):
            entry = (entry, entry)
        self.assertEqual(raised(results, wide, {"a": 1}, [entry]), ("TooMany", {"most": 40}))
        many = Program([(f"x{k}", A) for k in range(10)], paired([("name", f"x{k}") for k in range(10)]))
        self.assertEqual(raised(results, many, {"a": 3}, [0] * 10), ("TooMany", {"most": 20000}))
        self.assertEqual(len(results(many, {"a": 2}, [0] * 10)), 1)
        self.assertEqual(raised(results, many, {"a": 3}, [0] * 9), ("BadValue", {"value": [0] * 9}))


def paired(terms):
    term = terms[0]
    for other in terms[1:]:
        term = ("pair", term, other)
    return term


class Composed(unittest.TestCase):
    def test_drawn(self):
        chance = random.Random(485)
        told = 0
        grower = Grower(486)
        wholes = []
        while len(wholes) < 300:
            one = grower.step()
            if one is not None and one.size() <= 7:
                wholes.append(one)
                grower.pool.append(one)
        for other in wholes:
            for name in sorted(other.inputs):
                fitting = [one for one in wholes if one.kind == other.inputs[name]]
                if not fitting:
                    continue
                one = grower.anew(chance.choice(fitting))
                first = Program(list(one.inputs.items()), one.term)
                second = Program(list(other.inputs.items()), other.term)
                if sum(len(form_entries(form, {})) for form in forms_of(first) + forms_of(second)) > 60:
                    continue
                told += 1
                self.check(first, second, name)
        self.assertGreater(told, 150)

    def check(self, first, second, name):
        whole = composed(first, second, name)
        self.assertIsInstance(whole, Program)
        self.assertEqual(whole.inputs, first.inputs + tuple(pair for pair in second.inputs if pair[0] != name))
        term = second.term
        for path in all_paths(second.term):
            if term_at(second.term, path) == ("name", name):
                term = with_term_at(term, path, first.term)
        self.assertEqual((whole.term, whole.kind), (term, second.kind))
        deeds = [deed_of_program(one) for one in (first, second)]
        number = [other for other, _ in second.inputs].index(name)
        hand = ("hand", deeds[0].steps, deeds[1].steps, len(first.inputs), number)
        try:
            joined = Deed(hand)
        except ValueError:
            return
        self.assertTrue(alike(deed_of_program(whole), joined))

    def test_put_in_each_place(self):
        one = program("w : b ; (fn v : b . v) w")
        self.assertEqual(composed(one, program("y : a, z : b ; [(z, y), (y, z)]"), "z").text(),
                         "w : b, y : a ; [((fn v : b . v) w, y), (y, (fn v : b . v) w)]")
        self.assertEqual(composed(one, program("z : b, y : b -> a, u : a ; (y z, u)"), "z").text(), "w : b, y : b -> a, u : a ; (y ((fn v : b . v) w), u)")

    def test_errors_in_order(self):
        one, other = program("w : b ; w"), program("y : a, z : b ; (z, y)")
        for wrong in (None, 5, other.term):
            self.assertEqual(raised(composed, wrong, None, None), ("BadValue", {"value": wrong}))
            self.assertEqual(raised(composed, one, wrong, None), ("BadValue", {"value": wrong}))
        for name in (None, 5, ["z"], b"z", True):
            self.assertEqual(raised(composed, one, other, name), ("BadValue", {"value": name}))
        for name in ("w", "", "Z", "let", "zz", "a" * 20):
            self.assertEqual(raised(composed, one, other, name), ("Unknown", {"name": name}))
        self.assertEqual(raised(composed, one, other, "y"), ("Unlike", {}))

    def test_names_in_common(self):
        other = program("y : a, z : b ; (z, (fn m : a . m) y)")
        for text, name in [("y : b ; y", "y"), ("z : b ; z", "z"), ("m : b ; m", "m"), ("w : b ; (fn y : b . y) w", "y"), ("w : b ; (fn m : b . m) w", "m"),
                           ("w : b ; (fn z : b . z) w", "z"), ("z : a, y : a ; (y, z)", "y"), ("m : b, z : b ; (m, z)", "m")]:
            self.assertEqual(raised(composed, program(text), other, "z"), ("Taken", {"name": name}))
            self.assertEqual(raised(composed, program(text), other, "q"), ("Unknown", {"name": "q"}))
        # the kind is looked at behind that
        self.assertEqual(raised(composed, program("y : a ; y"), other, "z"), ("Taken", {"name": "y"}))
        bound = program("s : b + b ; case s of y1 . y1 or y2 . y2")
        for name in ("y1", "y2", "s"):
            self.assertEqual(raised(composed, Program([(name, B)], ("name", name)), Program(bound.inputs, bound.term), "s"), ("Taken", {"name": name}))

    def test_without_inputs(self):
        self.assertEqual(composed(program("; fn v : a . v"), program("f : a -> a, x : a ; f x"), "f").text(), "x : a ; (fn v : a . v) x")
        self.assertEqual(composed(program("v : a ; v"), program("x : a ; x"), "x").text(), "v : a ; v")

    def test_several_together(self):
        """Names of the other one may be told anew; then anything fits."""
        for whole in small_programs(487, 60, 6, 8):
            names = {name: f"m{k}" for k, name in enumerate(sorted(set(names_of(whole.term))))}
            anew = Program([(names[name], kind) for name, kind in whole.inputs], renamed(whole.term, names))
            self.assertIs(alike_programs(whole, anew), True)
            self.assertEqual(composed(anew, Program([("last", whole.kind)], ("name", "last")), "last").term, anew.term)


if __name__ == "__main__":
    unittest.main()
