"""[51], [91]: the program of a deed."""
import random
import unittest

from alldeeds.checking import Program
from alldeeds.deeds import Deed
from alldeeds.likeness import alike
from alldeeds.programdeeds import deed_of_program
from alldeeds.programtexts import read_program
from alldeeds.readback import program_of_deed
from alldeeds.reducing import without_hands
from alldeeds.wired import wirings_of
from growing import (SLOTS, deeds_of_programs, form_of, grown_programs, is_given, is_taken, kind_leaves, names_of, parts_of, with_parts,
                     words_in)
from making import all_steps, anti, counter_of, good, link, raised

A, B = good("a"), good("b")
LA, LB = link("a"), link("b")
TWICE = ("hand", LA, LA, 1, 0)


def kind_given(form):
    if len(form) == 2:
        return form
    if form[0] == "between":
        return ("to", kind_given(counter_of(form[1])), kind_given(form[2]))
    return ({"both": "pair", "chosen": "sum", "offered": "offer"}[form[0]], kind_given(form[1]), kind_given(form[2]))


def put(term, name, other):
    """The term with another one in the place of each name."""
    if term[0] == "name":
        return other if term[1] == name else term
    return with_parts(term, [put(part, name, other) for part in parts_of(term)])


def told(steps, names):
    """[51], word by word: the term of a step with a name for each of its ends, that of the given one unused."""
    word = steps[0]
    if word == "link":
        return ("name", names[1])
    one = Deed(steps[1])
    if word == "turn":
        return told(steps[1], [names[steps[2].index(k)] for k in range(len(one.ends))])
    new = names[-1]
    made = Deed(steps).ends[-1]
    if word == "both":
        i, j = steps[3:]
        ones, others = list(names[:len(one.ends) - 1]), list(names[len(one.ends) - 1:-1])
        first, second = fresh(), fresh()
        ones.insert(i, first)
        others.insert(j, second)
        left, right = told(steps[1], ones), told(steps[2], others)
        if is_given(made):
            return ("pair", left, right)
        return put(right, second, ("apply", ("name", new), left))
    if word == "between":
        i, j = steps[2:]
        x, y = fresh(), fresh()
        row = list(names[:-1])
        for at, name in sorted([(i, x), (j, y)]):
            row.insert(at, name)
        term = told(steps[1], row)
        if is_given(made):
            return ("fn", x, kind_given(counter_of(one.ends[i])), term)
        return ("let", x, y, ("name", new), term)
    if word == "offer":
        i, j = steps[3:]
        x, y = fresh(), fresh()
        ones, others = list(names[:-1]), list(names[:-1])
        ones.insert(i, x)
        others.insert(j, y)
        left, right = told(steps[1], ones), told(steps[2], others)
        if is_given(made):
            return ("ways", left, right)
        return ("case", ("name", new), x, left, y, right)
    i, side = steps[2:4]
    x = fresh()
    row = list(names[:-1])
    row.insert(i, x)
    term = told(steps[1], row)
    if is_given(made):
        return (("left", "right")[side], term, kind_given(made))
    return put(term, x, (("first", "second")[side], ("name", new)))


COUNT = [0]


def fresh():
    COUNT[0] += 1
    return f"z{COUNT[0]}"


def with_new_names(term, names, count):
    """The term with the names y1, y2, .. for those that it binds, in the order of the terms that bind them."""
    word = term[0]
    if word == "name":
        return ("name", names[term[1]])
    slots = SLOTS[word]
    names = dict(names)
    for slot, part in zip(slots, term[1:]):
        if slot == "n":
            count[0] += 1
            names[part] = f"y{count[0]}"
    return (word,) + tuple(names[part] if slot == "n" else with_new_names(part, names, count) if slot == "t" else part
                           for slot, part in zip(slots, term[1:]))


def told_program(deed):
    names, inputs, row = {}, [], []
    for end in deed.ends:
        row.append(fresh())
        if is_taken(end):
            inputs.append((f"x{len(inputs) + 1}", kind_given(counter_of(end))))
            names[row[-1]] = inputs[-1][0]
    return (tuple(inputs), with_new_names(told(deed.steps, row), names, [0]))


class ProgramOfDeed(unittest.TestCase):
    def check(self, deed):
        program = program_of_deed(deed)
        self.assertIsInstance(program, Program)
        self.assertEqual((program.inputs, program.term), told_program(deed))
        given = [k for k, end in enumerate(deed.ends) if is_given(end)]
        self.assertEqual(len(given), 1)
        order = tuple(k for k in range(len(deed.ends)) if k not in given) + tuple(given)
        if kind_leaves(program.kind) <= 8 and len(names_of(program.term)) < 24:
            self.assertTrue(alike(deed_of_program(program), Deed(("turn", deed.steps, order))))
        return program

    def test_drawn(self):
        found = [self.check(deed) for deed in deeds_of_programs(471, 900)]
        self.assertEqual(len(words_in([(program.inputs, program.term) for program in found])), 11)

    def test_deeds_of_programs_without_hands(self):
        chance = random.Random(472)
        for inputs, term in grown_programs(473, 150, most_terms=10, most_leaves=9):
            deed = without_hands(deed_of_program(Program(inputs, term)))[0]
            order = list(range(len(deed.ends)))
            chance.shuffle(order)
            if deed.size() < 120:
                self.check(deed)
                self.check(Deed(("turn", deed.steps, tuple(order))))

    def test_told(self):
        for steps, text in [
                (LA, "x1 : a ; x1"), (("turn", LA, (1, 0)), "x1 : a ; x1"), (("both", LA, LB, 0, 0), "x1 : a, x2 : b ; (x1, x2)"),
                (("both", LA, LB, 0, 1), "x1 : a, x2 : a -> b ; x2 x1"), (("between", LA, 1, 0), "; fn y1 : a . y1"),
                (("between", ("both", LA, LB, 0, 0), 0, 1), "x1 : a * b ; let y1, y2 = x1 in (y1, y2)"),
                (("between", ("both", LA, LB, 0, 0), 1, 0), "x1 : b * a ; let y1, y2 = x1 in (y2, y1)"),
                (("offer", LA, LA, 0, 0), "x1 : a ; [x1, x1]"), (("offer", LA, LA, 1, 1), "x1 : a + a ; case x1 of y1 . y1 or y2 . y2"),
                (("choose", LA, 0, 0, B), "x1 : a ; left(x1 : a + b)"), (("choose", LA, 0, 1, B), "x1 : a ; right(x1 : b + a)"),
                (("choose", LA, 1, 0, anti("b")), "x1 : a & b ; first x1"), (("choose", LA, 1, 1, anti("b")), "x1 : b & a ; second x1"),
                (("both", LA, ("offer", LB, LB, 0, 0), 0, 0), "x1 : a, x2 : a -> b ; [x2 x1, x2 x1]")]:
            self.assertEqual(self.check(Deed(steps)).text(), text)

    def test_names_in_the_order_of_the_text(self):
        """A term that stands for several names has its bound names anew each time; both names of a case are ahead of those within."""
        fn = ("between", LA, 1, 0)
        self.assertEqual(self.check(Deed(("both", fn, ("offer", LB, LB, 0, 0), 0, 0))).text(),
                         "x1 : (a -> a) -> b ; [x1 (fn y1 : a . y1), x1 (fn y2 : a . y2)]")
        case = ("offer", ("both", fn, LB, 0, 0), ("both", fn, LB, 0, 0), 0, 0)
        self.assertEqual(self.check(Deed(case)).text(), "x1 : b + b ; case x1 of y1 . (fn y3 : a . y3, y1) or y2 . (fn y4 : a . y4, y2)")

    def test_inputs_in_order(self):
        deed = Deed(("turn", ("both", LA, LB, 0, 0), (2, 1, 0)))
        self.assertEqual(program_of_deed(deed).text(), "x1 : b, x2 : a ; (x2, x1)")

    def test_deeds_of_no_program(self):
        for steps, at in [(("between", LA, 0, 1), 0), (("both", LA, LA, 1, 1), 2), (("between", ("both", LA, LA, 1, 1), 0, 2), 1),
                          (("choose", LA, 0, 0, anti("a")), 1), (("choose", LA, 1, 1, A), 1), (("turn", ("choose", LA, 0, 0, anti("a")), (1, 0)), 0),
                          (("both", LA, ("choose", LB, 1, 0, A), 0, 0), 1), (("between", TWICE, 0, 1), 0),
                          (("choose", TWICE, 0, 0, anti("a")), 1), (("both", TWICE, LA, 1, 1), 2)]:
            self.assertEqual(raised(program_of_deed, Deed(steps)), ("NotOfProgram", {"at": at}))

    def test_hand_ons(self):
        """The first one, behind ends that are of no program."""
        for steps, at in [(TWICE, 3), (("turn", TWICE, (1, 0)), 3), (("both", LA, TWICE, 0, 0), 4), (("hand", TWICE, TWICE, 1, 0), 3)]:
            self.assertEqual(all_steps(steps)[at - 1][0], "hand")
            self.assertEqual(raised(program_of_deed, Deed(steps)), ("HasHand", {"at": at}))

    def test_just_one_given_end(self):
        """[51]: so it is with all steps within."""
        for deed in deeds_of_programs(474, 300):
            for step in all_steps(deed.steps):
                self.assertEqual(sum(is_given(end) for end in Deed(step).ends), 1)
                self.assertTrue(all(is_given(end) or is_taken(end) for end in Deed(step).ends))

    def test_program_there_and_back(self):
        """The program of the deed of a plain program is itself."""
        for text in ["x1 : a ; x1", "x1 : a * b ; let y1, y2 = x1 in (y2, y1)", "; fn y1 : a . y1"]:
            deed = without_hands(deed_of_program(Program(*read_program(text))))[0]
            self.assertEqual(program_of_deed(deed).text(), text)

    def test_bad_value(self):
        for wrong in [None, LA, 5, wirings_of(Deed(LA)), Program([("x", A)], ("name", "x"))]:
            self.assertEqual(raised(program_of_deed, wrong), ("BadValue", {"value": wrong}))

    def test_forms_of_kinds(self):
        for deed in deeds_of_programs(475, 100):
            program = program_of_deed(deed)
            self.assertEqual([form_of(kind) for _, kind in program.inputs], [counter_of(end) for end in deed.ends if is_taken(end)])
            self.assertEqual(form_of(program.kind), [end for end in deed.ends if is_given(end)][0])


if __name__ == "__main__":
    unittest.main()
