"""The examples of the interface, as the document writes them; each one uses the names of those ahead."""
import unittest

import examples

FORMS = r"""
>>> from alldeeds.forms import counter, depth, goods, is_form, with_forms
>>> a, b = ("good", "a"), ("counter", "b")
>>> [counter(("both", a, ("offered", b, a))), depth(("both", a, ("offered", b, a))), goods(("chosen", b, a)), is_form(["good", "a"])]
[('between', ('counter', 'a'), ('chosen', ('good', 'b'), ('counter', 'a'))), 2, ('a', 'b'), False]
>>> with_forms(("both", a, ("counter", "a")), {"a": ("between", a, b)})
('both', ('between', ('good', 'a'), ('counter', 'b')), ('both', ('counter', 'a'), ('good', 'b')))
>>> counter(("both", a))
raises BadValue(value=('both', ('good', 'a')))
"""

FORMTEXTS = r"""
>>> from alldeeds.formtexts import ends_text, form_text, read_ends, read_form
>>> [read_form(" a*( b|c~ )"), form_text(read_form("(a&b)+(c~|d1)"))]
[('both', ('good', 'a'), ('between', ('good', 'b'), ('counter', 'c'))), '(a & b) + (c~ | d1)']
>>> [ends_text([("good", "a"), ("chosen", ("good", "b"), ("counter", "a"))]), read_ends("x , y~ ")]
['a, b + a~', [('good', 'x'), ('counter', 'y')]]
>>> read_form("a * b * c")
raises NotAText(at=6)
>>> read_form("(a * b)")
raises NotAText(at=7)
>>> read_form("  ")
raises NotAText(at=2)
>>> read_ends("a ~")
raises NotAText(at=2)
"""

ENDS = r"""
>>> from alldeeds.ends import above_leaves, choices, forks, leaf_ends, leaves, met_leaves, settled
>>> ends = read_ends("a & (b + c), a~ * d")
>>> [[leaf[1] for leaf in leaves(ends)], forks(ends), leaf_ends(ends), above_leaves(ends)]
[['a', 'b', 'c', 'a', 'd'], ('offered', 'chosen'), (0, 0, 0, 1, 1), (((0, 0),), ((0, 1), (1, 0)), ((0, 1), (1, 1)), (), ())]
>>> choices(ends)
(((0, 0),), ((0, 1), (1, 0)), ((0, 1), (1, 1)))
>>> [met_leaves(ends, ((0, 1), (1, 0))), ends_text(settled(ends, ((0, 1), (1, 0))))]
[(1, 3, 4), 'b, a~ * d']
>>> met_leaves(ends, ((0, 0), (1, 0)))
raises BadValue(value=((0, 0), (1, 0)))
"""

DEEDS = r"""
>>> from alldeeds.deeds import Deed, deed_with_forms, plain_deed, replaced, step_of
>>> pair = Deed(("both", ("link", "a"), ("link", "b"), 0, 0))
>>> [ends_text(pair.ends), pair.size(), step_of(pair, 2).steps]
['a~, b~, a * b', 3, ('link', 'b')]
>>> [ends_text(Deed(("turn", ("between", pair.steps, 1, 0), (1, 0))).ends), plain_deed(("both", ("good", "a"), ("good", "b"))) == Deed(("between", pair.steps, 0, 1))]
['b~ | a~, a * b', True]
>>> ends_text(deed_with_forms(pair, {"b": read_form("c & d~")}).ends)
'a~, c~ + d, a * (c & d~)'
>>> Deed(("between", ("both", ("link", "a"), ("link", "B"), 0, 5), 0, 0))
raises WrongStep(at=2)
>>> replaced(pair, 1, Deed(("turn", ("link", "a"), (1, 0))))
raises Unlike()
"""

DEEDTEXTS = r"""
>>> from alldeeds.deedtexts import deed_text, read_deed
>>> deed_text(Deed(("choose", ("both", ("link", "a"), ("link", "b"), 0, 0), 2, 1, ("good", "c"))))
'link a\nlink b\nboth 1 2 at 0 0\nchoose 3 at 2 right c\n'
>>> read_deed("link b\nlink a\n both 2  1 at 0 0") == pair
True
>>> read_deed("link a\nboth 1 2 at 0 0")
raises NotAText(at=8)
>>> read_deed("link a\nlink b\n")
raises NotAText(at=14)
>>> read_deed("link a\nchoose 1 at 0 left(a * b) + c").ends[1][1:]
(('good', 'a'), ('chosen', ('both', ('good', 'a'), ('good', 'b')), ('good', 'c')))
"""

WIRINGS = r"""
>>> from alldeeds.wirings import Wirings, choices_of, links_at, turned_wirings
>>> ends = (("offered", ("good", "a"), ("good", "b")), ("chosen", ("counter", "a"), ("counter", "b")))
>>> told = Wirings(ends, [(((0, 1), (1, 1)), ((1, 3),)), (((0, 0), (1, 0)), ((0, 2),))])
>>> told.wirings
((((0, 0), (1, 0)), ((0, 2),)), (((0, 1), (1, 1)), ((1, 3),)))
>>> turned_wirings(told, [1, 0]).wirings
((((0, 0), (1, 0)), ((0, 2),)), (((0, 1), (1, 1)), ((1, 3),)))
>>> [choices_of(told), links_at(told, ((0, 1), (1, 0)))]
[(((0, 0), (1, 0)), ((0, 1), (1, 1))), ()]
>>> links_at(told, ((0, 1),))
raises BadValue(value=((0, 1),))
"""

WIRELINES = r"""
>>> from alldeeds.wirelines import read_wirings, wirings_text
>>> wirings_text(told)
'a & b, a~ + b~\nat 0 left 1 left links 0-2\nat 0 right 1 right links 1-3\n'
>>> read_wirings("a, a~\n links  0-1").wirings
(((), ((0, 1),)),)
>>> read_wirings("a, a~\nat 0 left")
raises NotAText(at=15)
"""

WIRED = r"""
>>> from alldeeds.wired import wirings_of
>>> wirings_of(Deed(("offer", ("choose", ("link", "a"), 1, 0, ("counter", "b")), ("choose", ("link", "b"), 1, 1, ("counter", "a")), 0, 0))).wirings
((((0, 0), (1, 0)), ((0, 2),)), (((0, 1), (1, 1)), ((1, 3),)))
>>> wirings_of(Deed(("hand", ("link", "a"), ("link", "a"), 1, 0))).wirings
(((), ((0, 1),)),)
"""

LIKENESS = r"""
>>> from alldeeds.likeness import alike, first_unlike, parting
>>> straight = ("both", ("link", "a"), ("link", "a"), 0, 0)
>>> crossed = ("turn", straight, (1, 0, 2))
>>> first_unlike(Deed(straight), Deed(crossed))
((), ((0, 2), (1, 3)), ((0, 3), (1, 2)))
>>> [alike(Deed(straight), Deed(("turn", crossed, (1, 0, 2)))), parting(Deed(straight), Deed(straight)), alike(Deed(straight), Deed(("link", "a")))]
[True, None, False]
>>> parting(Deed(straight), Deed(("link", "a")))
raises Unlike()
"""

CUTS = r"""
>>> from alldeeds.cuts import bad_cut, first_unsound, leaves_one_tree, lines_of, nodes_of
>>> good = Wirings(read_ends("a * b, a~ | b~"), [((), ((0, 2), (1, 3)))])
>>> [nodes_of(good, 0), lines_of(good, 0)[:3], leaves_one_tree(good, 0, (((1,), 0),)), bad_cut(good, 0)]
[((0,), (0, 0), (0, 1), (1,), (1, 0), (1, 1)), (((0,), (0, 0)), ((0,), (0, 1)), ((0, 0), (1, 0))), True, None]
>>> bad = Wirings(read_ends("a * b, a~ * b~"), [((), ((0, 2), (1, 3)))])
>>> [bad_cut(bad, 0).cut, len(bad_cut(bad, 0).ring), bad_cut(bad, 0).loose, first_unsound(bad)]
[(), 6, None, 0]
>>> two = Wirings(read_ends("a | a~, b | b~"), [((), ((0, 1), (2, 3)))])
>>> [first_unsound(two), bad_cut(two, 0).ring, len(bad_cut(two, 0).loose)]
[0, None, 3]
"""

TAKING = r"""
>>> from alldeeds.taking import is_plain_link, taken, takings
>>> some = Wirings((("both", ("offered", ("good", "a"), ("good", "a")), ("good", "b")), ("chosen", ("counter", "a"), ("counter", "a")), ("counter", "b")), [(((0, 0), (1, 0)), ((0, 3), (2, 5))), (((0, 1), (1, 1)), ((1, 4), (2, 5)))])
>>> [takings(some), is_plain_link(some), is_plain_link(taken(some, 0)[1])]
[(0,), False, True]
>>> [part.ends for part in taken(some, 0)]
[(('chosen', ('counter', 'a'), ('counter', 'a')), ('offered', ('good', 'a'), ('good', 'a'))), (('counter', 'b'), ('good', 'b'))]
>>> taken(some, 0)[0].wirings
((((0, 0), (1, 0)), ((0, 2),)), (((0, 1), (1, 1)), ((1, 3),)))
>>> taken(some, 1)
raises CannotTake(end=1)
>>> ends = (("both", ("offered", ("good", "a"), ("good", "a")), ("offered", ("good", "b"), ("good", "b"))), ("chosen", ("counter", "a"), ("counter", "a")), ("chosen", ("counter", "b"), ("counter", "b")))
>>> crosswise = Wirings(ends, [(((0, i), (1, j), (2, j), (3, i)), ((i, 4 + j), (2 + j, 6 + i))) for i, j in [(0, 0), (0, 1), (1, 0), (1, 1)]])
>>> takings(crosswise)
()
"""

BACK = r"""
>>> from alldeeds.back import comes_of_deed, deed_of, stuck_at
>>> deed_of(Wirings((("counter", "a"), ("good", "a")), [((), ((0, 1),))])).steps
('turn', ('link', 'a'), (1, 0))
>>> deed_of(Wirings((("between", ("good", "a"), ("counter", "a")),), [((), ((0, 1),))])).steps
('between', ('link', 'a'), 0, 1)
>>> ring = Wirings((("both", ("good", "a"), ("counter", "a")),), [((), ((0, 1),))])
>>> [stuck_at(ring).ends, comes_of_deed(ring), comes_of_deed(some)]
[(('both', ('good', 'a'), ('counter', 'a')),), False, True]
"""

ORDERS = r"""
>>> from alldeeds.orders import count_orders, first_order
>>> count_orders(wirings_of(Deed(("between", ("between", ("both", ("link", "a"), ("link", "b"), 0, 0), 0, 1), 0, 1))))
1
>>> first_order(some)
(0, (1, (0, ()), (0, ())), ())
>>> count_orders(crosswise)
0
"""

HANDING = r"""
>>> from alldeeds.handing import handed
>>> link = Wirings((("good", "a"), ("counter", "a")), [((), ((0, 1),))])
>>> handed(link, link, 1, 0) == link
True
>>> offer = Wirings(read_ends("a~, a & a"), [(((0, 0),), ((0, 1),)), (((0, 1),), ((0, 2),))])
>>> choose = Wirings(read_ends("a~ + a~, a"), [(((0, 1),), ((1, 2),))])
>>> [ends_text(handed(offer, choose, 1, 0).ends), handed(offer, choose, 1, 0).wirings]
['a~, a', (((), ((0, 1),)),)]
>>> handed(offer, choose, 0, 0)
raises BadValue(value=0)
"""

ROWS = r"""
>>> from alldeeds.rows import joined_row, midways
>>> three = Deed(("both", ("both", ("link", "a"), ("link", "b"), 0, 0), ("link", "c"), 2, 0))
>>> middles, row = midways(three, ((0,), (1, 2), (3,)))
>>> [ends_text(three.ends), form_text(middles[0]), len(middles), ends_text(row[0].ends), ends_text(joined_row(row).ends)]
['a~, b~, c~, (a * b) * c', 'a', 2, 'a~, a', 'a~, b~, c~, (a * b) * c']
>>> joined_row((three, three))
raises Unlike()
"""

REDUCING = r"""
>>> from alldeeds.reducing import ready_hands, reduced, without_hands
>>> twice = Deed(("hand", ("link", "a"), ("link", "a"), 1, 0))
>>> [ready_hands(twice), reduced(twice, 3).steps, without_hands(twice) == (Deed(("link", "a")), 1)]
[(3,), ('link', 'a'), True]
>>> pair = ("both", ("link", "a"), ("link", "b"), 0, 0)
>>> deed = Deed(("hand", pair, ("between", pair, 0, 1), 2, 1))
>>> [ends_text(deed.ends), ready_hands(deed), reduced(deed, 8).steps]
['a~, b~, a * b', (8,), ('hand', ('link', 'a'), ('hand', ('link', 'b'), ('both', ('link', 'a'), ('link', 'b'), 0, 0), 0, 1), 0, 1)]
>>> [without_hands(deed)[0].steps == pair, without_hands(deed)[1]]
[True, 3]
>>> reduced(deed, 7)
raises BadValue(value=7)
"""

RUNS = r"""
>>> from alldeeds.runs import answer, links_met, walk
>>> offer = ("offer", ("link", "a"), ("link", "a"), 0, 0)
>>> deed = Deed(("hand", offer, ("choose", ("link", "a"), 1, 1, ("counter", "a")), 1, 1))
>>> [ends_text(deed.ends), answer(deed, ()).wiring, answer(deed, ()).hidden, links_met(deed, ())]
['a~, a', ((), ((0, 1),)), {6: ((0, 1),)}, (2, 4)]
>>> [walk(deed, (), 0).stations, walk(deed, (), 0).leaf, walk(deed, (), 1).stations]
[((2, 1), (4, 1)), 1, ((4, 0), (2, 0))]
>>> walk(Deed(offer), (1,), 1)
raises BadValue(value=1)
"""

ENTRIES = r"""
>>> from alldeeds.entries import all_entries, choice_of, entry_with, is_entry, things_of
>>> form, b = read_form("a & (b * a~)"), ("good", "b")
>>> [all_entries(form, {"a": 2, "b": 1}), is_entry(form, {"a": 2, "b": 1}, (1, (0, 2))), is_entry(form, {"a": 3, "b": 1}, (1, (0, 2)))]
[[(0, 0), (0, 1), (1, (0, 0)), (1, (0, 1))], False, True]
>>> [choice_of([form, b], ((1, (0, 2)), 4)), things_of([form, b], ((1, (0, 2)), 4))]
[((0, 1),), ((1, 0), (2, 2), (3, 4))]
>>> entry_with([form, b], ((0, 0),), [(3, 4), (0, 7)])
((0, 7), 4)
"""

MEANINGS = r"""
>>> from alldeeds.meanings import entry_count, fits, joined_meaning, meaning, meaning_of
>>> ends = [("offered", ("good", "a"), ("good", "a")), ("counter", "a")]
>>> pick = Wirings(ends, [(((0, 0),), ((0, 2),)), (((0, 1),), ((1, 2),))])
>>> [meaning_of(pick, {"a": 2}), entry_count(pick, {"a": 10 ** 30}) == 2 * 10 ** 30]
[[((0, 0), 0), ((0, 1), 1), ((1, 0), 0), ((1, 1), 1)], True]
>>> [fits(pick, ((1, 5), 5)), fits(pick, ((1, 5), 6))]
[((((0, 1),), ((1, 2),)),), ()]
>>> joined_meaning([(0, 0), (1, 1), (0, 1)], [(1, 7), (2, 8)], 1, 0)
[(0, 7), (1, 7)]
>>> meaning(Deed(("both", ("link", "a"), ("link", "b"), 0, 0)), {"a": 1, "b": 2})
[(0, 0, (0, 0)), (0, 1, (0, 1))]
"""

TOLDBACK = r"""
>>> from alldeeds.toldback import is_single, told_back
>>> [told_back(ends, meaning_of(pick, {"a": 2})) == pick, told_back(ends, [((0, 0), 0)]), told_back(ends, []) == Wirings(ends, []), is_single(pick)]
[True, None, True, True]
"""

SEARCH = r"""
>>> from alldeeds.search import all_wirings, count_unlike, has_deed, least_choices, most_choices, some_deed
>>> [count_unlike(read_ends(text)) for text in ["a, a~", "a, a", "a * b, a~, b~", "(a | a~) | (a * a~)", "a, a, a~ * a~", "a & a, a~", "a, a~ + a~", "a & a, a~ + a~"]]
[1, 0, 1, 1, 2, 1, 2, 4]
>>> [one.wirings for one in all_wirings(read_ends("a, a, a~ * a~"))]
[(((), ((0, 2), (1, 3))),), (((), ((0, 3), (1, 2))),)]
>>> [some_deed(read_ends("a * a~")), has_deed(read_ends("a, a~ + b")), has_deed(read_ends("a, a")), least_choices(read_ends("a & b, a~ + b~")), most_choices(read_ends("a, a~"))]
[None, True, False, 2, 1]
"""

FLATFORMS = r"""
>>> from alldeeds.flatforms import choice_count, flat_leaves, flat_of, form_of, is_flat, same_forms
>>> shared = read_form("(b + c) * a")
>>> flat_of(shared)
('chosen', (('both', (('good', 'a'), ('good', 'b'))), ('both', (('good', 'a'), ('good', 'c')))))
>>> [form_text(form_of(flat_of(shared))), choice_count(shared), flat_leaves(shared)]
['(a * b) + (a * c)', 2, 4]
>>> [same_forms(shared, read_form("(c * a) + (b * a)")), same_forms(read_form("a"), read_form("a & a")), is_flat(flat_of(shared)), is_flat(shared)]
[True, False, True, False]
"""

UNDOING = r"""
>>> from alldeeds.undoing import is_plain_deed, undo_each_other
>>> two = read_form("a * a")
>>> turned = Deed(("between", ("both", ("link", "a"), ("link", "a"), 0, 0), 1, 0))
>>> [turned.ends == plain_deed(two).ends, is_plain_deed(turned), is_plain_deed(plain_deed(two)), undo_each_other(turned, turned), undo_each_other(turned, plain_deed(two))]
[True, False, True, True, False]
"""

SAMEFORMS = r"""
>>> from alldeeds.sameforms import both_ways, changed_end, way_count, ways
>>> there, back = both_ways(shared, read_form("(a * b) + (a * c)"))
>>> [undo_each_other(there, back), both_ways(two, read_form("a | a"))]
[True, None]
>>> [way_count(two, two), len(ways(two, two)), way_count(read_form("(a * a) + (a * a)"), read_form("(a * a) + (a * a)")), way_count(two, shared)]
[2, 2, 8, 0]
>>> [way.wirings for way in ways(read_form("a * b"), read_form("b * a"))]
[(((), ((0, 3), (1, 2))),)]
>>> [form_text(end) for end in changed_end(turned, 0, two).ends]
['a * a', 'a~ | a~']
"""

MIDWAY = r"""
>>> from alldeeds.midway import crossing_goods, middle_form, midway, rejoined
>>> deed = Deed(("both", ("link", "a"), ("link", "b"), 0, 0))
>>> [ends_text(deed.ends), form_text(middle_form(deed, (0, 1))), form_text(middle_form(deed, (2,))), form_text(middle_form(deed, (0, 2)))]
['a~, b~, a * b', 'a * b', 'a~ | b~', 'b~']
>>> half = midway(deed, (2,))
>>> [ends_text(half.one.ends), ends_text(half.other.ends), crossing_goods(deed, (0, 2))]
['a * b, a~ | b~', 'a * b, a~, b~', ('b',)]
>>> rejoined(deed, (0, 1)).steps[0]
'hand'
>>> offer = Deed(("offer", ("link", "a"), ("link", "a"), 1, 1))
>>> [ends_text(offer.ends), form_text(middle_form(offer, (0,))), form_text(middle_form(offer, (1,)))]
['a, a~ & a~', 'a~ & a~', 'a + a']
>>> midway(offer, (0, 1))
raises BadValue(value=(0, 1))
"""

ASKINGS = r"""
>>> from alldeeds.askings import answering, askings_of, first_unanswered
>>> ends = read_ends("a & a, a~")
>>> both = Wirings(ends, [(((0, 0),), ((0, 2),)), (((0, 1),), ((1, 2),))])
>>> [askings_of(ends), answering(both, (1,)), first_unanswered(both)]
[((0,), (1,)), (1,), None]
>>> first_unanswered(Wirings(ends, [(((0, 0),), ((0, 2),))]))
((1,), ())
"""

PROGRAMS = r"""
>>> from alldeeds.kinds import read_kind, form_of_kind, kind_of_form
>>> form_text(form_of_kind(read_kind("a -> (b * c)")))
'a~ | (b * c)'
>>> [kind_of_form(read_form("a | b")), kind_of_form(read_form("a~ | b"))]
[None, ('to', ('good', 'a'), ('good', 'b'))]
>>> read_kind("a -> b -> c")
raises NotAText(at=7)
>>> from alldeeds.checking import Program
>>> from alldeeds.programtexts import program_text, read_program
>>> inputs, term = read_program("x : a * b ; let y, z = x in (z, y)")
>>> [Program(inputs, term).kind, Program(inputs, term).kind_at((1, 0)), Program(inputs, term).names_at((1,))]
[('pair', ('good', 'b'), ('good', 'a')), ('good', 'b'), ('y', 'z')]
>>> Program((("x", ("good", "a")),), ("pair", ("name", "x"), ("name", "x")))
raises WrongTerm(path=(1,))
>>> read_program("x : a ; fn let : b . x")
raises NotAText(at=14)
>>> from alldeeds.programdeeds import deed_of_program
>>> wirings_of(deed_of_program(Program(inputs, term))).wirings
(((), ((0, 3), (1, 2))),)
>>> from alldeeds.programs import plain_program, results
>>> both = Program(*read_program("x : a + a ; case x of y . y or z . (fn w : a . w) z"))
>>> plain_program(both).text()
'x1 : a + a ; case x1 of y1 . y1 or y2 . y2'
>>> results(Program(inputs, term), {"a": 2, "b": 2}, [(0, 1)])
[(1, 0)]
>>> from alldeeds.programs import alike_programs, composed
>>> alike_programs(both, plain_program(both))
True
>>> composed(Program(*read_program("w : b ; w")), Program(*read_program("y : a, z : b ; (z, y)")), "z").text()
'w : b, y : a ; (w, y)'
>>> from alldeeds.readback import program_of_deed
>>> program_of_deed(Deed(("both", ("link", "a"), ("link", "b"), 0, 1))).text()
'x1 : a, x2 : a -> b ; x2 x1'
"""

PROMISES = r"""
>>> from alldeeds.promises import promise_text, read_promise
>>> [read_promise(" x has  2 "), promise_text(("open", "e"))]
[('has', 'x', 2), 'e open']
>>> read_promise("x has 02")
raises BadPromise(promise='x has 02')
"""

SECTIONS = [
    ("[61] forms", FORMS),
    ("[62] formtexts", FORMTEXTS),
    ("[63] ends", ENDS),
    ("[64] deeds", DEEDS),
    ("[65] deedtexts", DEEDTEXTS),
    ("[66] wirings", WIRINGS),
    ("[67] wirelines", WIRELINES),
    ("[68] wired", WIRED),
    ("[69] likeness", LIKENESS),
    ("[70] cuts", CUTS),
    ("[71] taking", TAKING),
    ("[72] back", BACK),
    ("[73] orders", ORDERS),
    ("[74] handing", HANDING),
    ("[75] rows", ROWS),
    ("[76] reducing", REDUCING),
    ("[77] runs", RUNS),
    ("[78] entries", ENTRIES),
    ("[79] meanings", MEANINGS),
    ("[80] toldback", TOLDBACK),
    ("[81] search", SEARCH),
    ("[82] flatforms", FLATFORMS),
    ("[83] undoing", UNDOING),
    ("[84] sameforms", SAMEFORMS),
    ("[85] midway", MIDWAY),
    ("[87] askings", ASKINGS),
    ("[92] programs", PROGRAMS),
    ("[94] promises", PROMISES),
]


class Examples(unittest.TestCase):
    def test_examples(self):
        names = {}
        for title, text in SECTIONS:
            with self.subTest(section=title):
                examples.check(self, text, names)


if __name__ == "__main__":
    unittest.main()
