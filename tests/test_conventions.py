"""[2]: what holds for all functions and classes: arguments, errors, copies, equal calls."""
import copy
import inspect
import unittest

from alldeeds import (askings, back, checking, cuts, deeds, deedtexts, desk, ends, entries, files, flatforms, forms, formtexts, handing,
                      kinds, likeness, meanings, midway, orders, programdeeds, programs, programtexts, promises, questions, readback,
                      reducing, rows, runs, sameforms, search, taking, toldback, undoing, wired, wirelines, wirings)
from alldeeds.checking import Program
from alldeeds.deeds import Deed
from alldeeds.desk import Desk
from alldeeds.errors import BadValue, DeedError
from alldeeds.formtexts import read_ends
from alldeeds.wirings import Wirings
from making import anti, good, link

A, B = good("a"), good("b")
LA, LB = link("a"), link("b")
PAIR = Deed(("both", LA, LB, 0, 0))
OFFER = Deed(("offer", LA, LA, 0, 0))
ENDS = read_ends("a & (b | b~), a~ * c, c~")
CHOICE = ((0, 0),)
TOLD = Wirings(ENDS, [(CHOICE, ((0, 3), (4, 5)))])
MET = Wirings(read_ends("a | b, a~ * b~"), [((), ((0, 2), (1, 3)))])
UNSOUND = Wirings(read_ends("a | a~, b | b~"), [((), ((0, 1), (2, 3)))])
SPLIT = Wirings(read_ends("a * b, a~, b~"), [((), ((0, 2), (1, 3)))])
LINK = wired.wirings_of(Deed(LA))
TWICE = Deed(("hand", LA, LA, 1, 0))
CHOOSE = Deed(("hand", OFFER.steps, ("choose", LA, 1, 1, anti("a")), 1, 1))
ASKED = Deed(("both", CHOOSE.steps, OFFER.steps, 0, 0))
PICKED = read_ends("a & a, a~ + a~")
SHARED, SPREAD = read_ends("a * (b + b), (a * b) + (b * a)")
TO = ("to", A, B)
INPUTS = [("f", TO), ("x", A)]
APPLIED = ("apply", ("name", "f"), ("name", "x"))
PROGRAM = Program(INPUTS, APPLIED)
ORDERED = Program([("x", A), ("y", A)], ("pair", ("name", "x"), ("name", "y")))
TURNED = Program([("x", A), ("y", A)], ("pair", ("name", "y"), ("name", "x")))
FILE = (("ends", "e", (A, anti("a"))), ("deed", "s", ("both", LA, LA, 0, 0)), ("deed", "c", ("turn", ("both", LA, LA, 0, 0), (1, 0, 2))),
        ("program", "p", tuple(INPUTS), APPLIED))

# each function and class with a right call, its arguments by their names
CALLS = [
    (forms.is_name, {"value": "a"}), (forms.is_form, {"value": A}), (forms.counter, {"form": ("both", A, B)}),
    (forms.depth, {"form": ("both", A, B)}), (forms.goods, {"form": ("both", B, A)}),
    (forms.with_forms, {"form": ("both", A, B), "forms": {"a": anti("b")}}),
    (formtexts.form_text, {"form": ("both", A, B)}), (formtexts.read_form, {"text": "a*b"}),
    (formtexts.ends_text, {"ends": ENDS}), (formtexts.read_ends, {"text": "a,b"}),
    (ends.leaves, {"ends": ENDS}), (ends.forks, {"ends": ENDS}), (ends.leaf_ends, {"ends": ENDS}),
    (ends.fork_ends, {"ends": ENDS}), (ends.above_leaves, {"ends": ENDS}), (ends.above_forks, {"ends": ENDS}),
    (ends.choices, {"ends": ENDS}), (ends.is_choice, {"ends": ENDS, "value": CHOICE}),
    (ends.met_leaves, {"ends": ENDS, "choice": CHOICE}), (ends.settled, {"ends": ENDS, "choice": CHOICE}),
    (deeds.Deed, {"steps": PAIR.steps}), (deeds.step_of, {"deed": PAIR, "at": 2}),
    (deeds.replaced, {"deed": PAIR, "at": 1, "other": Deed(("hand", LA, LA, 1, 0))}), (deeds.plain_deed, {"form": ("both", A, B)}),
    (deeds.deed_with_forms, {"deed": PAIR, "forms": {"a": ("offered", A, B)}}), (deedtexts.deed_text, {"deed": PAIR}),
    (deedtexts.read_deed, {"text": "link a\n"}), (wirings.Wirings, {"ends": ENDS, "wirings": list(TOLD.wirings)}),
    (wirings.choices_of, {"wirings": TOLD}), (wirings.links_at, {"wirings": TOLD, "choice": CHOICE}),
    (wirings.turned_wirings, {"wirings": TOLD, "order": [2, 0, 1]}), (wirelines.wirings_text, {"wirings": TOLD}),
    (wirelines.read_wirings, {"text": "a, a~\nlinks 0-1"}), (wired.wirings_of, {"deed": OFFER}),
    (likeness.alike, {"one": PAIR, "other": OFFER}), (likeness.first_unlike, {"one": PAIR, "other": PAIR}),
    (likeness.parting, {"one": Deed(("choose", LA, 0, 0, A)), "other": Deed(("choose", LA, 0, 1, A))}),
    (cuts.nodes_of, {"wirings": MET, "number": 0}), (cuts.lines_of, {"wirings": MET, "number": 0}),
    (cuts.leaves_one_tree, {"wirings": MET, "number": 0, "cut": (((0,), 1),)}), (cuts.bad_cut, {"wirings": UNSOUND, "number": 0}),
    (cuts.BadCut, {"cut": (), "ring": None, "loose": ((0,),)}), (cuts.first_unsound, {"wirings": UNSOUND}),
    (taking.is_plain_link, {"wirings": SPLIT}), (taking.takings, {"wirings": SPLIT}), (taking.taken, {"wirings": SPLIT, "end": 0}),
    (back.comes_of_deed, {"wirings": SPLIT}), (back.stuck_at, {"wirings": UNSOUND}), (back.deed_of, {"wirings": SPLIT}),
    (orders.count_orders, {"wirings": SPLIT}), (orders.first_order, {"wirings": SPLIT}),
    (handing.handed, {"one": SPLIT, "other": LINK, "i": 1, "j": 0}),
    (rows.midways, {"deed": PAIR, "lists": [(0,), [1], (2,)]}), (rows.joined_row, {"deeds": [Deed(LA), Deed(LA), TWICE]}),
    (reducing.ready_hands, {"deed": TWICE}), (reducing.reduced, {"deed": TWICE, "at": 3}), (reducing.without_hands, {"deed": CHOOSE}),
    (runs.answer, {"deed": ASKED, "asking": (1,)}), (runs.Answer, {"wiring": ((), ((0, 1),)), "hidden": {3: ((0, 1),)}}),
    (runs.links_met, {"deed": ASKED, "asking": (1,)}), (runs.walk, {"deed": ASKED, "asking": (1,), "leaf": 0}),
    (runs.Walk, {"stations": ((1, 0), (2, 0)), "leaf": 1}),
    (entries.is_entry, {"form": ("both", A, B), "sets": {"a": 1, "b": 2}, "value": (0, 1)}),
    (entries.all_entries, {"form": ("both", A, B), "sets": {"a": 3, "b": 2}}),
    (entries.choice_of, {"ends": ENDS, "entry": ((0, 5), (5, 2), 2)}),
    (entries.things_of, {"ends": ENDS, "entry": ((0, 5), (5, 2), 2)}),
    (entries.entry_with, {"ends": ENDS, "choice": CHOICE, "things": [(5, 2), (0, 5), (3, 5), (4, 2)]}),
    (meanings.meaning_of, {"wirings": TOLD, "sets": {"a": 2, "b": 1, "c": 3}}),
    (meanings.meaning, {"deed": PAIR, "sets": {"a": 2, "b": 3}}), (meanings.fits, {"wirings": TOLD, "entry": ((0, 5), (5, 2), 2)}),
    (meanings.entry_count, {"wirings": TOLD, "sets": {"a": 2, "b": 1, "c": 10 ** 20}}),
    (meanings.joined_meaning, {"one": [(0, 1), (1, 2)], "other": [(1, 5), (2, 6)], "i": 1, "j": 0}),
    (toldback.is_single, {"wirings": TOLD}), (toldback.told_back, {"ends": [A, anti("a")], "entries": [(1, 1), (0, 0)]}),
    (search.all_wirings, {"ends": PICKED}), (search.count_unlike, {"ends": PICKED}), (search.has_deed, {"ends": PICKED}),
    (search.some_deed, {"ends": PICKED}), (search.least_choices, {"ends": PICKED}), (search.most_choices, {"ends": PICKED}),
    (midway.midway, {"deed": PAIR, "left": (0, 2)}), (midway.Midway, {"form": A, "one": Deed(LA), "other": Deed(LA)}),
    (midway.middle_form, {"deed": PAIR, "left": (0, 2)}), (midway.crossing_goods, {"deed": PAIR, "left": (0, 2)}),
    (midway.rejoined, {"deed": PAIR, "left": (0, 2)}),
    (flatforms.flat_of, {"form": SHARED}), (flatforms.same_forms, {"one": SHARED, "other": SPREAD}), (flatforms.is_flat, {"value": A}),
    (flatforms.form_of, {"flat": ("both", (A, B))}), (flatforms.choice_count, {"form": SHARED}), (flatforms.flat_leaves, {"form": SHARED}),
    (undoing.is_plain_deed, {"deed": PAIR}), (undoing.undo_each_other, {"there": Deed(LA), "back": Deed(LA)}),
    (sameforms.both_ways, {"one": SHARED, "other": SPREAD}), (sameforms.way_count, {"one": SHARED, "other": SPREAD}),
    (sameforms.ways, {"one": SHARED, "other": SPREAD}), (sameforms.changed_end, {"deed": PAIR, "number": 2, "form": ("both", B, A)}),
    (kinds.is_kind, {"value": A}), (kinds.form_of_kind, {"kind": TO}), (kinds.kind_of_form, {"form": ("both", A, B)}),
    (kinds.kind_taken, {"form": ("between", anti("a"), anti("b"))}), (kinds.kind_text, {"kind": TO}), (kinds.read_kind, {"text": "a->b"}),
    (kinds.goods_in, {"kind": TO}), (programtexts.is_term, {"value": ("name", "x")}), (programtexts.term_text, {"term": APPLIED}),
    (programtexts.read_program, {"text": "x : a ; x"}), (programtexts.program_text, {"inputs": INPUTS, "term": APPLIED}),
    (checking.Program, {"inputs": INPUTS, "term": APPLIED}), (programdeeds.deed_of_program, {"program": PROGRAM}),
    (readback.program_of_deed, {"deed": PAIR}), (programs.plain_program, {"program": PROGRAM}),
    (programs.alike_programs, {"one": PROGRAM, "other": PROGRAM}),
    (programs.parting_programs, {"one": ORDERED, "other": TURNED}),
    (programs.results, {"program": PROGRAM, "sets": {"a": 2, "b": 3}, "given": [(1, 2), 1]}),
    (programs.composed, {"one": PROGRAM, "other": Program([("y", B)], ("name", "y")), "name": "y"}),
    (files.read_file, {"text": "ends e\na"}), (files.file_text, {"file": FILE}), (files.deeds_of, {"file": FILE}),
    (promises.promise_text, {"promise": ("has", "e", 1)}), (promises.read_promise, {"text": "e has 1"}),
    (questions.asked, {"file": FILE, "promise": ("alike", "s", "c")}), (desk.Desk, {"text": "deed d\nlink a"}),
    (askings.askings_of, {"ends": PICKED}), (askings.answering, {"wirings": TOLD, "asking": (0,)}),
    (askings.first_unanswered, {"wirings": TOLD}),
]
# classes whose objects keep any values
KEEPERS = (cuts.BadCut, runs.Answer, runs.Walk, midway.Midway)
CLASSES = (Deed, Wirings, Program, Desk) + KEEPERS
# arguments that may be empty lists
EMPTY = ((wirings.Wirings, "wirings"), (toldback.told_back, "entries"), (programtexts.program_text, "inputs"),
         (checking.Program, "inputs"), (files.file_text, "file"), (files.deeds_of, "file"), (questions.asked, "file"))


def same(one, other):
    """Whether two results are equal; objects by their attributes, and all parts of the same kind."""
    if type(one) is not type(other):
        return False
    if isinstance(one, (list, tuple)):
        return len(one) == len(other) and all(same(x, y) for x, y in zip(one, other))
    if isinstance(one, CLASSES):
        return same(sorted(vars(one).items()), sorted(vars(other).items()))
    return one == other


class Arguments(unittest.TestCase):
    def test_by_position_and_by_name(self):
        for call, named in CALLS:
            with self.subTest(call=call.__name__):
                result = call(*named.values())
                self.assertTrue(same(call(**named), result))
                self.assertTrue(same(call(**dict(reversed(list(named.items())))), result))
                first, *rest = named.items()
                self.assertTrue(same(call(first[1], **dict(rest)), result))
                self.assertRaises(TypeError, call, *named.values(), None)
                if inspect.isfunction(call):
                    self.assertEqual(list(inspect.signature(call).parameters), list(named))

    def test_equal_calls_return_equal_results(self):
        for call, named in CALLS:
            with self.subTest(call=call.__name__):
                one, other = call(**named), call(**copy.deepcopy(named))
                self.assertTrue(same(one, other))
                if isinstance(one, list):
                    self.assertIsNot(one, other)

    def test_arguments_are_not_changed(self):
        for call, named in CALLS:
            with self.subTest(call=call.__name__):
                before = {name: state(value) for name, value in named.items()}
                call(**named)
                self.assertEqual({name: state(value) for name, value in named.items()}, before)

    def test_errors_change_nothing(self):
        for call, named in [(call, named) for call, named in CALLS if call not in KEEPERS]:
            for name in named:
                with self.subTest(call=call.__name__, name=name):
                    told = dict(named)
                    told[name] = [None, ["x", {"y": 1}]]
                    before = {key: state(value) for key, value in told.items()}
                    try:
                        call(**told)
                    except DeedError:
                        pass
                    self.assertEqual({key: state(value) for key, value in told.items()}, before)

    def test_wrong_arguments_raise_bad_value(self):
        """Each argument but those of any kind; the first wrong one from left to right counts."""
        for call, named in CALLS:
            if call == deeds.Deed or call in KEEPERS:
                continue
            names = [name for name in named if name != "value"]
            for at, name in enumerate(names):
                for wrong in [None, 2.5, object(), {1: 2}, {"a": 5}, b"a", -1, True, ()]:
                    told = dict(named)
                    told[name] = wrong
                    for later in names[at + 1:]:
                        told[later] = object()
                    if (call, name) in EMPTY and wrong == ():
                        continue
                    with self.subTest(call=call.__name__, name=name, wrong=repr(wrong)):
                        with self.assertRaises(BadValue) as caught:
                            call(**told)
                        self.assertIs(caught.exception.value, wrong)

    def test_lists_and_tuples(self):
        for call, named in CALLS:
            for name in ("ends", "wirings", "order", "lists", "deeds", "things", "one", "other", "entries", "left", "inputs", "given", "file", "promise"):
                if isinstance(named.get(name), (list, tuple)) and named[name] not in (SHARED, SPREAD):
                    other = dict(named)
                    other[name] = tuple(named[name]) if isinstance(named[name], list) else list(named[name])
                    with self.subTest(call=call.__name__, name=name):
                        self.assertTrue(same(call(**other), call(**named)))

    def test_lists_that_stand_for_no_tuple(self):
        """Forms, choices, entries, cuts, askings, kinds and terms are tuples alone."""
        for call, named in CALLS:
            for name in ("form", "choice", "entry", "cut", "asking", "flat", "kind", "term"):
                if isinstance(named.get(name), tuple) and call not in KEEPERS:
                    other = dict(named)
                    other[name] = list(named[name])
                    with self.subTest(call=call.__name__, name=name):
                        with self.assertRaises(BadValue) as caught:
                            call(**other)
                        self.assertIs(caught.exception.value, other[name])


def state(value):
    """The value with all that is in it, as a string that tells changes."""
    if isinstance(value, CLASSES):
        return repr([(name, state(told)) for name, told in sorted(vars(value).items())])
    if isinstance(value, list) and value and isinstance(value[0], Deed):
        return repr([state(deed) for deed in value])
    return repr(value)


# the methods of objects that are new each time, with right arguments by their names
METHOD_CALLS = [
    (lambda: Deed(LA), "size", {}), (lambda: PROGRAM, "text", {}), (lambda: PROGRAM, "kind_at", {"path": (1,)}),
    (lambda: PROGRAM, "names_at", {"path": ()}),
] + [
    (lambda: Desk("deed d\nlink a\nends e\na, a~"), name, named) for name, named in [
        ("put", {"text": "ends f\na"}), ("drop", {"name": "d"}), ("rename", {"name": "d", "new": "z"}), ("keep", {"promise": "d plain"}),
        ("attempt", {"action": Desk.lines}), ("lines", {}), ("names", {}), ("promises", {}), ("deed", {"name": "d"}),
        ("ask", {"promise": "e has 1"})]
]


def desk_with_more():
    """A desk with a promise and something to undo and to redo."""
    told = Desk("deed d\nlink a")
    told.keep("d plain")
    told.put("")
    told.put("")
    told.undo()
    return told


METHOD_CALLS += [(desk_with_more, "release", {"promise": "d plain"}), (desk_with_more, "undo", {}), (desk_with_more, "redo", {})]


class Methods(unittest.TestCase):
    def test_by_position_and_by_name(self):
        for made, name, named in METHOD_CALLS:
            with self.subTest(name=name):
                ways = [(list(named.values()), {}), ([], named), ([], dict(reversed(list(named.items())))),
                        (list(named.values())[:1], dict(list(named.items())[1:]))]
                told = []
                for values, keywords in ways:
                    one = made()
                    told.append((getattr(one, name)(*values, **keywords), one))
                for one in told[1:]:
                    self.assertTrue(same(one, told[0]))
                self.assertRaises(TypeError, getattr(made(), name), *named.values(), None)

    def test_all_methods(self):
        self.assertEqual(len(METHOD_CALLS), 17)
        for made, name, named in METHOD_CALLS:
            self.assertEqual(list(inspect.signature(getattr(made(), name)).parameters), list(named))

    def test_without_a_result(self):
        for made, name, named in METHOD_CALLS:
            silent = name in ("put", "drop", "rename", "keep", "release", "undo", "redo")
            self.assertIs(getattr(made(), name)(**named) is None, silent)

    def test_desk_without_a_text(self):
        self.assertTrue(same(Desk(), Desk(text="")))
        self.assertTrue(same(Desk(), Desk("")))


class Results(unittest.TestCase):
    def test_kinds(self):
        kinds = {
            "is_name": bool, "is_form": bool, "counter": tuple, "depth": int, "goods": tuple, "with_forms": tuple,
            "form_text": str, "read_form": tuple, "ends_text": str, "read_ends": list, "leaves": tuple, "forks": tuple,
            "leaf_ends": tuple, "fork_ends": tuple, "above_leaves": tuple, "above_forks": tuple, "choices": tuple,
            "is_choice": bool, "met_leaves": tuple, "settled": tuple, "Deed": Deed, "step_of": Deed, "replaced": Deed,
            "plain_deed": Deed, "deed_with_forms": Deed, "deed_text": str, "read_deed": Deed, "Wirings": Wirings,
            "choices_of": tuple, "links_at": tuple, "turned_wirings": Wirings, "wirings_text": str, "read_wirings": Wirings,
            "wirings_of": Wirings, "alike": bool, "first_unlike": type(None), "parting": tuple, "nodes_of": tuple,
            "lines_of": tuple, "leaves_one_tree": bool, "bad_cut": cuts.BadCut, "BadCut": cuts.BadCut, "first_unsound": int,
            "is_plain_link": bool, "takings": tuple, "taken": tuple, "comes_of_deed": bool, "stuck_at": Wirings, "deed_of": Deed,
            "count_orders": int, "first_order": tuple, "handed": Wirings, "midways": tuple, "joined_row": Deed,
            "ready_hands": tuple, "reduced": Deed, "without_hands": tuple, "answer": runs.Answer, "Answer": runs.Answer,
            "links_met": tuple, "walk": runs.Walk, "Walk": runs.Walk, "is_entry": bool, "all_entries": list, "choice_of": tuple,
            "things_of": tuple, "entry_with": tuple, "meaning_of": list, "meaning": list, "fits": tuple, "entry_count": int,
            "joined_meaning": list, "is_single": bool, "told_back": Wirings, "all_wirings": tuple, "count_unlike": int,
            "has_deed": bool, "some_deed": Deed, "least_choices": int, "most_choices": int, "midway": midway.Midway,
            "Midway": midway.Midway, "middle_form": tuple, "crossing_goods": tuple, "rejoined": Deed, "askings_of": tuple,
            "answering": tuple, "first_unanswered": tuple, "flat_of": tuple, "same_forms": bool, "is_flat": bool, "form_of": tuple,
            "choice_count": int, "flat_leaves": int, "is_plain_deed": bool, "undo_each_other": bool, "both_ways": tuple,
            "way_count": int, "ways": list, "changed_end": Deed, "is_kind": bool, "form_of_kind": tuple, "kind_of_form": tuple,
            "kind_taken": tuple, "kind_text": str, "read_kind": tuple, "goods_in": tuple, "is_term": bool, "term_text": str,
            "read_program": tuple, "program_text": str, "Program": Program, "deed_of_program": Deed, "program_of_deed": Program,
            "plain_program": Program, "alike_programs": bool, "parting_programs": tuple, "results": list, "composed": Program,
            "read_file": tuple, "file_text": str, "deeds_of": dict, "promise_text": str, "read_promise": tuple, "asked": tuple,
            "Desk": Desk,
        }
        self.assertEqual(len(kinds), len(CALLS))
        for call, named in CALLS:
            with self.subTest(call=call.__name__):
                self.assertIs(type(call(**named)), kinds[call.__name__])

    def test_returned_lists_are_new(self):
        for call, named in CALLS:
            first = call(**named)
            if isinstance(first, list):
                right = list(first)
                first.append(A)
                self.assertEqual(call(**named), right)
        told = runs.answer(ASKED, (1,))
        told.hidden.clear()
        self.assertEqual(runs.answer(ASKED, (1,)).hidden, {6: ((0, 1),)})

    def test_what_is_given_is_copied(self):
        hidden, stations = {3: ()}, [(1, 0)]
        answer, walk = runs.Answer(((), ()), hidden), runs.Walk(stations, 0)
        hidden[4] = ()
        stations.append(None)
        self.assertEqual((answer.hidden, walk.stations), ({3: ()}, ((1, 0),)))

    def test_objects_without_equality(self):
        for call, named in CALLS:
            if call in KEEPERS:
                self.assertNotEqual(call(**named), call(**named))
                self.assertTrue(same(call(**named), call(**named)))

    def test_size(self):
        self.assertEqual((PAIR.size(), type(PAIR.size())), (3, int))

    def test_equality(self):
        self.assertTrue(Deed(LA) == Deed(("link", "a")) and Wirings([A], []) == Wirings((A,), ()))
        self.assertFalse(Deed(LA) == wired.wirings_of(Deed(LA)) or wired.wirings_of(Deed(LA)) == Deed(LA))
        for one in (Deed(LA), Wirings([A], [])):
            for other in (None, 0, "", (), [], object(), BadValue(one)):
                self.assertTrue(one != other)
                self.assertFalse(one == other)
        self.assertNotEqual(BadValue(1), BadValue(1))


if __name__ == "__main__":
    unittest.main()
