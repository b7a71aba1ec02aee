"""The examples of the interface, as the document writes them; each one uses the names of those ahead."""
import unittest

import examples

FORMS = r"""
>>> from alldeeds.forms import counter, depth, goods, is_form, with_forms
>>> a, b = ("good", "a"), ("counter", "b")
>>> [counter(("both", a, ("offered", b, a))), depth(("both", a, ("offered", b, a))), goods(("chosen", b, a)), is_form(["good", "a"])]
[('between', ('counter', 'a'), ('chosen', ('good', 'b'), ('counter', 'a'))), 2, ('a', 'b'), False]
>>> with_forms(("both", a, ("counter", "a")), {"a": ("between", a, b)})
('both', ('between', ('good', 'a'), ('counter', 'b')), ('both', ('counter', 'a'), ('good', 'b')))
>>> counter(("both", a))
raises BadValue(value=('both', ('good', 'a')))
"""

FORMTEXTS = r"""
>>> from alldeeds.formtexts import ends_text, form_text, read_ends, read_form
>>> [read_form(" a*( b|c~ )"), form_text(read_form("(a&b)+(c~|d1)"))]
[('both', ('good', 'a'), ('between', ('good', 'b'), ('counter', 'c'))), '(a & b) + (c~ | d1)']
>>> [ends_text([("good", "a"), ("chosen", ("good", "b"), ("counter", "a"))]), read_ends("x , y~ ")]
['a, b + a~', [('good', 'x'), ('counter', 'y')]]
>>> read_form("a * b * c")
raises NotAText(at=6)
>>> read_form("(a * b)")
raises NotAText(at=7)
>>> read_form("  ")
raises NotAText(at=2)
>>> read_ends("a ~")
raises NotAText(at=2)
"""

ENDS = r"""
>>> from alldeeds.ends import above_leaves, choices, forks, leaf_ends, leaves, met_leaves, settled
>>> ends = read_ends("a & (b + c), a~ * d")
>>> [[leaf[1] for leaf in leaves(ends)], forks(ends), leaf_ends(ends), above_leaves(ends)]
[['a', 'b', 'c', 'a', 'd'], ('offered', 'chosen'), (0, 0, 0, 1, 1), (((0, 0),), ((0, 1), (1, 0)), ((0, 1), (1, 1)), (), ())]
>>> choices(ends)
(((0, 0),), ((0, 1), (1, 0)), ((0, 1), (1, 1)))
>>> [met_leaves(ends, ((0, 1), (1, 0))), ends_text(settled(ends, ((0, 1), (1, 0))))]
[(1, 3, 4), 'b, a~ * d']
>>> met_leaves(ends, ((0, 0), (1, 0)))
raises BadValue(value=((0, 0), (1, 0)))
"""

DEEDS = r"""
>>> from alldeeds.deeds import Deed, deed_with_forms, plain_deed, replaced, step_of
>>> pair = Deed(("both", ("link", "a"), ("link", "b"), 0, 0))
>>> [ends_text(pair.ends), pair.size(), step_of(pair, 2).steps]
['a~, b~, a * b', 3, ('link', 'b')]
>>> [ends_text(Deed(("turn", ("between", pair.steps, 1, 0), (1, 0))).ends), plain_deed(("both", ("good", "a"), ("good", "b"))) == Deed(("between", pair.steps, 0, 1))]
['b~ | a~, a * b', True]
>>> ends_text(deed_with_forms(pair, {"b": read_form("c & d~")}).ends)
'a~, c~ + d, a * (c & d~)'
>>> Deed(("between", ("both", ("link", "a"), ("link", "B"), 0, 5), 0, 0))
raises WrongStep(at=2)
>>> replaced(pair, 1, Deed(("turn", ("link", "a"), (1, 0))))
raises Unlike()
"""

DEEDTEXTS = r"""
>>> from alldeeds.deedtexts import deed_text, read_deed
>>> deed_text(Deed(("choose", ("both", ("link", "a"), ("link", "b"), 0, 0), 2, 1, ("good", "c"))))
'link a\nlink b\nboth 1 2 at 0 0\nchoose 3 at 2 right c\n'
>>> read_deed("link b\nlink a\n both 2  1 at 0 0") == pair
True
>>> read_deed("link a\nboth 1 2 at 0 0")
raises NotAText(at=8)
>>> read_deed("link a\nlink b\n")
raises NotAText(at=14)
>>> read_deed("link a\nchoose 1 at 0 left(a * b) + c").ends[1][1:]
(('good', 'a'), ('chosen', ('both', ('good', 'a'), ('good', 'b')), ('good', 'c')))
"""

WIRINGS = r"""
>>> from alldeeds.wirings import Wirings, choices_of, links_at, turned_wirings
>>> ends = (("offered", ("good", "a"), ("good", "b")), ("chosen", ("counter", "a"), ("counter", "b")))
>>> told = Wirings(ends, [(((0, 1), (1, 1)), ((1, 3),)), (((0, 0), (1, 0)), ((0, 2),))])
>>> told.wirings
((((0, 0), (1, 0)), ((0, 2),)), (((0, 1), (1, 1)), ((1, 3),)))
>>> turned_wirings(told, [1, 0]).wirings
((((0, 0), (1, 0)), ((0, 2),)), (((0, 1), (1, 1)), ((1, 3),)))
>>> [choices_of(told), links_at(told, ((0, 1), (1, 0)))]
[(((0, 0), (1, 0)), ((0, 1), (1, 1))), ()]
>>> links_at(told, ((0, 1),))
raises BadValue(value=((0, 1),))
"""

WIRELINES = r"""
>>> from alldeeds.wirelines import read_wirings, wirings_text
>>> wirings_text(told)
'a & b, a~ + b~\nat 0 left 1 left links 0-2\nat 0 right 1 right links 1-3\n'
>>> read_wirings("a, a~\n links  0-1").wirings
(((), ((0, 1),)),)
>>> read_wirings("a, a~\nat 0 left")
raises NotAText(at=15)
"""

WIRED = r"""
>>> from alldeeds.wired import wirings_of
>>> wirings_of(Deed(("offer", ("choose", ("link", "a"), 1, 0, ("counter", "b")), ("choose", ("link", "b"), 1, 1, ("counter", "a")), 0, 0))).wirings
((((0, 0), (1, 0)), ((0, 2),)), (((0, 1), (1, 1)), ((1, 3),)))
>>> wirings_of(Deed(("hand", ("link", "a"), ("link", "a"), 1, 0))).wirings
(((), ((0, 1),)),)
"""

LIKENESS = r"""
>>> from alldeeds.likeness import alike, first_unlike, parting
>>> straight = ("both", ("link", "a"), ("link", "a"), 0, 0)
>>> crossed = ("turn", straight, (1, 0, 2))
>>> first_unlike(Deed(straight), Deed(crossed))
((), ((0, 2), (1, 3)), ((0, 3), (1, 2)))
>>> [alike(Deed(straight), Deed(("turn", crossed, (1, 0, 2)))), parting(Deed(straight), Deed(straight)), alike(Deed(straight), Deed(("link", "a")))]
[True, None, False]
>>> parting(Deed(straight), Deed(("link", "a")))
raises Unlike()
"""

CUTS = r"""
>>> from alldeeds.cuts import bad_cut, first_unsound, leaves_one_tree, lines_of, nodes_of
>>> good = Wirings(read_ends("a * b, a~ | b~"), [((), ((0, 2), (1, 3)))])
>>> [nodes_of(good, 0), lines_of(good, 0)[:3], leaves_one_tree(good, 0, (((1,), 0),)), bad_cut(good, 0)]
[((0,), (0, 0), (0, 1), (1,), (1, 0), (1, 1)), (((0,), (0, 0)), ((0,), (0, 1)), ((0, 0), (1, 0))), True, None]
>>> bad = Wirings(read_ends("a * b, a~ * b~"), [((), ((0, 2), (1, 3)))])
>>> [bad_cut(bad, 0).cut, len(bad_cut(bad, 0).ring), bad_cut(bad, 0).loose, first_unsound(bad)]
[(), 6, None, 0]
>>> two = Wirings(read_ends("a | a~, b | b~"), [((), ((0, 1), (2, 3)))])
>>> [first_unsound(two), bad_cut(two, 0).ring, len(bad_cut(two, 0).loose)]
[0, None, 3]
"""

TAKING = r"""
>>> from alldeeds.taking import is_plain_link, taken, takings
>>> some = Wirings((("both", ("offered", ("good", "a"), ("good", "a")), ("good", "b")), ("chosen", ("counter", "a"), ("counter", "a")), ("counter", "b")), [(((0, 0), (1, 0)), ((0, 3), (2, 5))), (((0, 1), (1, 1)), ((1, 4), (2, 5)))])
>>> [takings(some), is_plain_link(some), is_plain_link(taken(some, 0)[1])]
[(0,), False, True]
>>> [part.ends for part in taken(some, 0)]
[(('chosen', ('counter', 'a'), ('counter', 'a')), ('offered', ('good', 'a'), ('good', 'a'))), (('counter', 'b'), ('good', 'b'))]
>>> taken(some, 0)[0].wirings
((((0, 0), (1, 0)), ((0, 2),)), (((0, 1), (1, 1)), ((1, 3),)))
>>> taken(some, 1)
raises CannotTake(end=1)
>>> ends = (("both", ("offered", ("good", "a"), ("good", "a")), ("offered", ("good", "b"), ("good", "b"))), ("chosen", ("counter", "a"), ("counter", "a")), ("chosen", ("counter", "b"), ("counter", "b")))
>>> crosswise = Wirings(ends, [(((0, i), (1, j), (2, j), (3, i)), ((i, 4 + j), (2 + j, 6 + i))) for i, j in [(0, 0), (0, 1), (1, 0), (1, 1)]])
>>> takings(crosswise)
()
"""

SECTIONS = [
    ("[61] forms", FORMS),
    ("[62] formtexts", FORMTEXTS),
    ("[63] ends", ENDS),
    ("[64] deeds", DEEDS),
    ("[65] deedtexts", DEEDTEXTS),
    ("[66] wirings", WIRINGS),
    ("[67] wirelines", WIRELINES),
    ("[68] wired", WIRED),
    ("[69] likeness", LIKENESS),
    ("[70] cuts", CUTS),
    ("[71] taking", TAKING),
]


class Examples(unittest.TestCase):
    def test_examples(self):
        names = {}
        for title, text in SECTIONS:
            with self.subTest(section=title):
                examples.check(self, text, names)


if __name__ == "__main__":
    unittest.main()
