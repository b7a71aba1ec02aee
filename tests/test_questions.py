"""[57], [95]: whether promises hold for a file, and the papers that show it."""
import random
import unittest

from alldeeds.deeds import Deed
from alldeeds.files import deeds_of, read_file
from alldeeds.formtexts import read_ends
from alldeeds.likeness import alike, parting
from alldeeds.orders import count_orders
from alldeeds.questions import asked
from alldeeds.sameforms import both_ways
from alldeeds.search import count_unlike, has_deed
from alldeeds.undoing import undo_each_other
from alldeeds.wired import wirings_of
from making import bushy, deed_meaning, good, has_hand, link, nested, passed_on, raised, random_deeds, small_ends

A, B = good("a"), good("b")
LA = link("a")
FILE = read_file("""
ends e
a, a~
ends w
a~, a
ends two
a & a, a~ + a~
ends none
a, a
ends f
a * (b + b)
ends g
(a * b) + (b * a)
ends h
a | b
deed d
link a
deed hand
link a
link a
hand 1 2 at 1 0
deed turn
link a
turn 1 as 1 0
program p
x : a ; (fn y : a . y) x
deed s
link a
link a
both 1 2 at 0 0
deed c
link a
link a
both 1 2 at 0 0
turn 3 as 1 0 2
program swap
x : a, y : a ; (y, x)
program keep
x : a, y : a ; (x, y)
""")
DEEDS = deeds_of(FILE)


def yes(paper=None):
    return (True, paper)


def no(paper=None):
    return (False, paper)


class Asked(unittest.TestCase):
    def test_alike(self):
        for one, other, holds in [("d", "d", True), ("d", "hand", True), ("d", "turn", False), ("turn", "p", True), ("hand", "p", False), ("s", "c", False),
                                  ("s", "keep", True), ("c", "swap", True), ("swap", "keep", False), ("d", "s", False), ("p", "turn", True)]:
            answer = asked(FILE, ("alike", one, other))
            self.assertIs(answer[0], holds)
            deeds = [DEEDS[one], DEEDS[other]]
            if holds or deeds[0].ends != deeds[1].ends:
                self.assertIsNone(answer[1])
            else:
                which, entry = answer[1]
                self.assertEqual([entry in deed_meaning(deed) for deed in deeds], [which == 0, which == 1])
        self.assertEqual(asked(FILE, ("alike", "s", "c"))[1], parting(DEEDS["s"], DEEDS["c"]))

    def test_for(self):
        for name, ends, holds in [("d", "e", True), ("d", "w", False), ("turn", "w", False), ("p", "w", True), ("p", "e", False), ("hand", "e", True), ("s", "e", False)]:
            holds = DEEDS[name].ends == tuple(item[2] for item in FILE if item[1] == ends)[0]
            self.assertEqual(asked(FILE, ("for", name, ends)), (holds, None))
        self.assertEqual(asked(FILE, ("for", "d", "e")), yes())
        self.assertEqual(asked(FILE, ("for", "d", "w")), no())
        self.assertEqual(asked(FILE, ("for", "p", "w")), yes())

    def test_plain(self):
        for name, holds in [("d", True), ("turn", True), ("s", True), ("hand", False), ("p", False), ("keep", False), ("e", False), ("zz", False)]:
            self.assertEqual(asked(FILE, ("plain", name)), (holds, None))

    def test_open(self):
        for name in ("e", "w", "two", "none", "f", "h"):
            holds, paper = asked(FILE, ("open", name))
            ends = [item[2] for item in FILE if item[1] == name][0]
            self.assertIs(holds, has_deed(ends))
            if holds:
                self.assertIsInstance(paper, Deed)
                self.assertEqual(paper.ends, ends)
            else:
                self.assertIsNone(paper)

    def test_has(self):
        for name, many in [("e", 1), ("two", 4), ("none", 0), ("h", 0)]:
            for number in (0, 1, 4, 9999):
                self.assertEqual(asked(FILE, ("has", name, number)), yes() if number == many else no(many))

    def test_same(self):
        for one, other, holds in [("f", "g", True), ("g", "f", True), ("f", "f", True), ("f", "h", False), ("e", "f", False), ("f", "e", False), ("e", "e", False)]:
            answer = asked(FILE, ("same", one, other))
            self.assertIs(answer[0], holds)
            if holds:
                self.assertIsInstance(answer[1], tuple)
                self.assertIs(undo_each_other(*answer[1]), True)
                forms = [[item[2][0] for item in FILE if item[1] == name][0] for name in (one, other)]
                self.assertEqual([deed.ends for deed in answer[1]], [deed.ends for deed in both_ways(*forms)])
            else:
                self.assertIsNone(answer[1])

    def test_same_asks_for_one_form_each(self):
        table = {"one": "a * b", "turned": "b * a", "two": "b * a, c", "more": "a * b, c"}
        file = tuple([("ends", name, tuple(read_ends(table[name]))) for name in table])
        for one in table:
            for other in table:
                holds = one in ("one", "turned") and other in ("one", "turned")
                self.assertIs(asked(file, ("same", one, other))[0], holds)

    def test_apart(self):
        for name in DEEDS:
            many = count_orders(wirings_of(DEEDS[name]))
            for number in (0, 1, many - 1, many, many + 1, 9999):
                self.assertEqual(asked(FILE, ("apart", name, number)), yes() if many >= number else no(many))

    def test_names_that_are_not_there_or_of_another_sort(self):
        for promise in [("alike", "d", "e"), ("alike", "e", "d"), ("alike", "zz", "d"), ("alike", "d", "zz"), ("alike", "e", "e"), ("for", "e", "e"),
                        ("for", "d", "d"), ("for", "zz", "e"), ("for", "d", "zz"), ("for", "zz", "zz"), ("plain", "e"), ("open", "d"), ("open", "p"), ("open", "zz"),
                        ("has", "d", 0), ("has", "zz", 0), ("same", "d", "d"), ("same", "f", "zz"), ("same", "zz", "f"), ("same", "f", "d"), ("apart", "e", 0),
                        ("apart", "zz", 0)]:
            self.assertEqual(asked(FILE, promise), no())
            self.assertEqual(asked((), promise), no())

    def test_drawn(self):
        chance = random.Random(511)
        deeds = random_deeds(512, 60, "a")
        for _ in range(60):
            one, other = chance.choice(deeds), chance.choice(deeds)
            ends = small_ends(chance, 6, 2)
            file = (("deed", "x", one.steps), ["deed", "y", other.steps], ("ends", "e", list(ends)), ("ends", "f", one.ends))
            self.assertIs(asked(file, ("alike", "x", "y"))[0], alike(one, other))
            self.assertIs(asked(file, ["for", "x", "f"])[0], True)
            self.assertIs(asked(file, ("for", "x", "e"))[0], one.ends == ends)
            self.assertIs(asked(file, ("plain", "x"))[0], not has_hand(one.steps))
            self.assertIs(asked(file, ("has", "e", count_unlike(ends)))[0], True)
            self.assertIs(asked(list(file), ("open", "f"))[0], True)

    def test_errors_that_are_raised(self):
        same = ("ends", "same", (nested(bushy(4), 5),))
        seven = ("ends", "seven", tuple(read_ends(", ".join(["a"] * 7) + ", ((a~ * a~) * (a~ * a~)) * ((a~ * a~) * a~)")))
        file = (("deed", "many", passed_on(11).steps), seven, same, ("deed", "d", LA))
        self.assertEqual(raised(asked, file, ("alike", "many", "many")), ("TooMany", {"most": 2000}))
        self.assertEqual(raised(asked, file, ("apart", "many", 1)), ("TooMany", {"most": 2000}))
        self.assertEqual(asked(file, ("alike", "many", "d")), no())
        self.assertEqual(raised(asked, file, ("same", "same", "same")), ("TooMany", {"most": 40}))
        self.assertEqual(raised(asked, file, ("has", "seven", 5040)), ("TooMany", {"most": 1000}))

    def test_bad_values(self):
        for file in [None, 5, "", (("ends", "e"),), (("ends", "e", (A,)),) * 2]:
            self.assertEqual(raised(asked, file, None), ("BadValue", {"value": file}))
        for promise in [None, "d plain", (), ("plain",), ("has", "e", -1), ("is", "d")]:
            self.assertEqual(raised(asked, FILE, promise), ("BadValue", {"value": promise}))

    def test_new_each_time(self):
        self.assertEqual(asked(FILE, ("open", "e"))[1], asked(FILE, ("open", "e"))[1])
        self.assertIsInstance(asked(FILE, ("plain", "d")), tuple)


if __name__ == "__main__":
    unittest.main()
