"""[2]: what holds for all functions and classes: arguments, errors, copies, equal calls."""
import copy
import inspect
import unittest

from alldeeds import cuts, deeds, deedtexts, ends, forms, formtexts, likeness, taking, wired, wirelines, wirings
from alldeeds.deeds import Deed
from alldeeds.errors import BadValue, DeedError
from alldeeds.formtexts import read_ends
from alldeeds.wirings import Wirings
from making import anti, good, link

A, B = good("a"), good("b")
LA, LB = link("a"), link("b")
PAIR = Deed(("both", LA, LB, 0, 0))
OFFER = Deed(("offer", LA, LA, 0, 0))
ENDS = read_ends("a & (b | b~), a~ * c, c~")
CHOICE = ((0, 0),)
TOLD = Wirings(ENDS, [(CHOICE, ((0, 3), (4, 5)))])
MET = Wirings(read_ends("a | b, a~ * b~"), [((), ((0, 2), (1, 3)))])
UNSOUND = Wirings(read_ends("a | a~, b | b~"), [((), ((0, 1), (2, 3)))])
SPLIT = Wirings(read_ends("a * b, a~, b~"), [((), ((0, 2), (1, 3)))])

# each function and class with a right call, its arguments by their names
CALLS = [
    (forms.is_name, {"value": "a"}), (forms.is_form, {"value": A}), (forms.counter, {"form": ("both", A, B)}),
    (forms.depth, {"form": ("both", A, B)}), (forms.goods, {"form": ("both", B, A)}),
    (forms.with_forms, {"form": ("both", A, B), "forms": {"a": anti("b")}}),
    (formtexts.form_text, {"form": ("both", A, B)}), (formtexts.read_form, {"text": "a*b"}),
    (formtexts.ends_text, {"ends": ENDS}), (formtexts.read_ends, {"text": "a,b"}),
    (ends.leaves, {"ends": ENDS}), (ends.forks, {"ends": ENDS}), (ends.leaf_ends, {"ends": ENDS}),
    (ends.fork_ends, {"ends": ENDS}), (ends.above_leaves, {"ends": ENDS}), (ends.above_forks, {"ends": ENDS}),
    (ends.choices, {"ends": ENDS}), (ends.is_choice, {"ends": ENDS, "value": CHOICE}),
    (ends.met_leaves, {"ends": ENDS, "choice": CHOICE}), (ends.settled, {"ends": ENDS, "choice": CHOICE}),
    (deeds.Deed, {"steps": PAIR.steps}), (deeds.step_of, {"deed": PAIR, "at": 2}),
    (deeds.replaced, {"deed": PAIR, "at": 1, "other": Deed(("hand", LA, LA, 1, 0))}), (deeds.plain_deed, {"form": ("both", A, B)}),
    (deeds.deed_with_forms, {"deed": PAIR, "forms": {"a": ("offered", A, B)}}), (deedtexts.deed_text, {"deed": PAIR}),
    (deedtexts.read_deed, {"text": "link a\n"}), (wirings.Wirings, {"ends": ENDS, "wirings": list(TOLD.wirings)}),
    (wirings.choices_of, {"wirings": TOLD}), (wirings.links_at, {"wirings": TOLD, "choice": CHOICE}),
    (wirings.turned_wirings, {"wirings": TOLD, "order": [2, 0, 1]}), (wirelines.wirings_text, {"wirings": TOLD}),
    (wirelines.read_wirings, {"text": "a, a~\nlinks 0-1"}), (wired.wirings_of, {"deed": OFFER}),
    (likeness.alike, {"one": PAIR, "other": OFFER}), (likeness.first_unlike, {"one": PAIR, "other": PAIR}),
    (likeness.parting, {"one": Deed(("choose", LA, 0, 0, A)), "other": Deed(("choose", LA, 0, 1, A))}),
    (cuts.nodes_of, {"wirings": MET, "number": 0}), (cuts.lines_of, {"wirings": MET, "number": 0}),
    (cuts.leaves_one_tree, {"wirings": MET, "number": 0, "cut": (((0,), 1),)}), (cuts.bad_cut, {"wirings": UNSOUND, "number": 0}),
    (cuts.BadCut, {"cut": (), "ring": None, "loose": ((0,),)}), (cuts.first_unsound, {"wirings": UNSOUND}),
    (taking.is_plain_link, {"wirings": SPLIT}), (taking.takings, {"wirings": SPLIT}), (taking.taken, {"wirings": SPLIT, "end": 0}),
]


def same(one, other):
    """Whether two results are equal; objects by their attributes, and all parts of the same kind."""
    if type(one) is not type(other):
        return False
    if isinstance(one, (list, tuple)):
        return len(one) == len(other) and all(same(x, y) for x, y in zip(one, other))
    if isinstance(one, (Deed, Wirings, cuts.BadCut)):
        return same(sorted(vars(one).items()), sorted(vars(other).items()))
    return one == other


class Arguments(unittest.TestCase):
    def test_by_position_and_by_name(self):
        for call, named in CALLS:
            with self.subTest(call=call.__name__):
                result = call(*named.values())
                self.assertTrue(same(call(**named), result))
                self.assertTrue(same(call(**dict(reversed(list(named.items())))), result))
                first, *rest = named.items()
                self.assertTrue(same(call(first[1], **dict(rest)), result))
                self.assertRaises(TypeError, call, *named.values(), None)
                if inspect.isfunction(call):
                    self.assertEqual(list(inspect.signature(call).parameters), list(named))

    def test_equal_calls_return_equal_results(self):
        for call, named in CALLS:
            with self.subTest(call=call.__name__):
                one, other = call(**named), call(**copy.deepcopy(named))
                self.assertTrue(same(one, other))
                if isinstance(one, list):
                    self.assertIsNot(one, other)

    def test_arguments_are_not_changed(self):
        for call, named in CALLS:
            with self.subTest(call=call.__name__):
                before = {name: state(value) for name, value in named.items()}
                call(**named)
                self.assertEqual({name: state(value) for name, value in named.items()}, before)

    def test_errors_change_nothing(self):
        for call, named in CALLS:
            for name in named:
                with self.subTest(call=call.__name__, name=name):
                    told = dict(named)
                    told[name] = [None, ["x", {"y": 1}]]
                    before = {key: state(value) for key, value in told.items()}
                    try:
                        call(**told)
                    except DeedError:
                        pass
                    self.assertEqual({key: state(value) for key, value in told.items()}, before)

    def test_wrong_arguments_raise_bad_value(self):
        """Each argument but those of any kind; the first wrong one from left to right counts."""
        for call, named in CALLS:
            if call in (deeds.Deed, cuts.BadCut):
                continue
            names = [name for name in named if name != "value"]
            for at, name in enumerate(names):
                for wrong in [None, 2.5, object(), {1: 2}, {"a": 5}, b"a", -1, True, ()]:
                    told = dict(named)
                    told[name] = wrong
                    for later in names[at + 1:]:
                        told[later] = object()
                    if name == "wirings" and call is wirings.Wirings and wrong == ():
                        continue
                    with self.subTest(call=call.__name__, name=name, wrong=repr(wrong)):
                        with self.assertRaises(BadValue) as caught:
                            call(**told)
                        self.assertIs(caught.exception.value, wrong)

    def test_lists_and_tuples(self):
        for call, named in CALLS:
            for name in ("ends", "wirings", "order"):
                if isinstance(named.get(name), list):
                    other = dict(named)
                    other[name] = tuple(named[name])
                    self.assertTrue(same(call(**other), call(**named)))


def state(value):
    """The value with all that is in it, as a string that tells changes."""
    if isinstance(value, (Deed, Wirings)):
        return repr(sorted(vars(value).items()))
    return repr(value)


class Results(unittest.TestCase):
    def test_kinds(self):
        kinds = {
            "is_name": bool, "is_form": bool, "counter": tuple, "depth": int, "goods": tuple, "with_forms": tuple,
            "form_text": str, "read_form": tuple, "ends_text": str, "read_ends": list, "leaves": tuple, "forks": tuple,
            "leaf_ends": tuple, "fork_ends": tuple, "above_leaves": tuple, "above_forks": tuple, "choices": tuple,
            "is_choice": bool, "met_leaves": tuple, "settled": tuple, "Deed": Deed, "step_of": Deed, "replaced": Deed,
            "plain_deed": Deed, "deed_with_forms": Deed, "deed_text": str, "read_deed": Deed, "Wirings": Wirings,
            "choices_of": tuple, "links_at": tuple, "turned_wirings": Wirings, "wirings_text": str, "read_wirings": Wirings,
            "wirings_of": Wirings, "alike": bool, "first_unlike": type(None), "parting": tuple, "nodes_of": tuple,
            "lines_of": tuple, "leaves_one_tree": bool, "bad_cut": cuts.BadCut, "BadCut": cuts.BadCut, "first_unsound": int,
            "is_plain_link": bool, "takings": tuple, "taken": tuple,
        }
        self.assertEqual(len(kinds), len(CALLS))
        for call, named in CALLS:
            with self.subTest(call=call.__name__):
                self.assertIs(type(call(**named)), kinds[call.__name__])

    def test_returned_lists_are_new(self):
        first = formtexts.read_ends("a, b")
        first.append(A)
        self.assertEqual(formtexts.read_ends("a, b"), [A, B])

    def test_size(self):
        self.assertEqual((PAIR.size(), type(PAIR.size())), (3, int))

    def test_equality(self):
        self.assertTrue(Deed(LA) == Deed(("link", "a")) and Wirings([A], []) == Wirings((A,), ()))
        self.assertFalse(Deed(LA) == wired.wirings_of(Deed(LA)) or wired.wirings_of(Deed(LA)) == Deed(LA))
        for one in (Deed(LA), Wirings([A], [])):
            for other in (None, 0, "", (), [], object(), BadValue(one)):
                self.assertTrue(one != other)
                self.assertFalse(one == other)
        self.assertNotEqual(BadValue(1), BadValue(1))


if __name__ == "__main__":
    unittest.main()
