"""[67]: texts of Wirings."""
import random
import unittest

from alldeeds.errors import DeedError, NotAText
from alldeeds.formtexts import ends_text, read_ends
from alldeeds.wired import wirings_of
from alldeeds.wirelines import read_wirings, wirings_text
from alldeeds.wirings import Wirings
from making import anti, check_each_place, every_wiring, good, nested, raised, random_deeds

A = good("a")
TEXT = "a & b, a~ + b~, c, c~\nat 0 left 1 left links 0-2 4-5\nat 0 right 1 right links 1-3 4-5\n"
TOLD = Wirings(read_ends("a & b, a~ + b~, c, c~"), [
    (((0, 0), (1, 0)), ((0, 2), (4, 5))), (((0, 1), (1, 1)), ((1, 3), (4, 5)))])

# texts that are none, and the lengths of their longest beginnings
WRONG_TEXTS = [
    ("", 0), ("  ", 2), ("\n", 0), ("a,", 2), ("a, a~\n\n", 6), ("a, a~\n ", 7), ("a, a~\n  \n", 8), ("a * \n", 4),
    ("(a * b)\n", 7), ("a b\n", 2), ("a, a~\nx", 6), ("a, a~\nl", 7), ("a, a~\nlink 0-1", 10), ("a, a~\nlinks", 11),
    ("a, a~\nlinks ", 12), ("a, a~\nlinks\n", 11), ("a, a~\nlinks0-1", 11), ("a, a~\nlinks 0", 13), ("a, a~\nlinks 0 1", 13),
    ("a, a~\nlinks 0 -1", 13), ("a, a~\nlinks 0- 1", 14), ("a, a~\nlinks 0-", 14), ("a, a~\nlinks 0-01", 15),
    ("a, a~\nlinks 00-1", 13), ("a, a~\nlinks 01-1", 13), ("a, a~\nlinks -0-1", 12), ("a, a~\nlinks 0-1-2", 15),
    ("a, a~\nlinks 0-1,2-3", 15), ("a, a~\nlinks 0-1 2", 17), ("a, a~\nlinks 0-1 x", 16), ("a, a~\nlinks 0-1 links 0-1", 16),
    ("a, a~\nlinks 0-12345", 18), ("a, a~\nlinks 12345-1", 16), ("a, a~\nlinks 10000-1", 16),
    ("a, a~\nlinks 0-10000", 18), ("a, a~\nat 10000 left", 13), ("a, a~\nat 0 left 10000 left", 20), ("a, a~\nlinks 0-1\n\n", 16), ("a, a~\nlinks 0-1\n\nlinks 0-1", 16),
    ("a, a~\nlinks 0-1 \n ", 18), ("a, a~\nlinks 0-1\nl", 17), ("a, a~\nlinks 0-1 at 0 left", 16), ("a, a~\nlinks 0-1\tx", 15),
    ("a, a~\nat", 8), ("a, a~\nat ", 9), ("a, a~\nat links 0-1", 9), ("a, a~\nat0 left", 8), ("a, a~\nat 0", 10),
    ("a, a~\nat 0left", 10), ("a, a~\nat 0 links", 12), ("a, a~\nat 0 le", 13), ("a, a~\nat 0 left", 15),
    ("a, a~\nat 0 left ", 16), ("a, a~\nat 0 left\n", 15), ("a, a~\nat 0 leftlinks 0-1", 15), ("a, a~\nat 0 left1 left", 15),
    ("a, a~\nat 0 left 1", 17), ("a, a~\nat 0 left 1 links", 19), ("a, a~\nat 0 left links", 21), ("a, a~\nat 0 left left", 17),
    ("a, a~\nat 0 left link s", 20), ("a, a~\nat 00 left", 10), ("a, a~\nat 12345 left", 13), ("a, a~\nat 0 Left", 11),
    ("a, a~\nat 0 right", 16), ("a, a~\nat 0 right 1 right links 0-1\na", 36), ("a, a~\nLinks", 6), ("a, a~ links 0-1", 6),
    ("a, a~\nat 0 left at 1 left", 16), ("a, a~\nat -1 left", 9), ("a, a~\nat x", 9), ("a, a~\na 0", 7), ("a, a~\tx", 5),
]


def loose(text, chance):
    """The text with more spaces, its lines in another order and some of them twice."""
    first, *lines = text.split("\n")[:-1]
    lines = lines + chance.sample(lines, min(2, len(lines)))
    chance.shuffle(lines)
    told = [first.replace(",", " , ").replace("*", "  * ")]
    for line in lines:
        spaced = " " * chance.randrange(3) + line.replace(" ", " " * chance.randrange(1, 4)) + " " * chance.randrange(3)
        told.append(spaced)
    return "\n".join(told) + chance.choice(["", "\n"])


class Texts(unittest.TestCase):
    def test_the_text(self):
        self.assertEqual(wirings_text(TOLD), TEXT)
        self.assertEqual(wirings_text(wirings=TOLD), TEXT)
        self.assertEqual(read_wirings(TEXT), TOLD)
        self.assertEqual(read_wirings(text=TEXT[:-1]), TOLD)
        self.assertEqual(wirings_text(Wirings([A, anti("a")], [((), ((0, 1),))])), "a, a~\nlinks 0-1\n")

    def test_no_wirings(self):
        none = Wirings(read_ends("a * b, c"), [])
        self.assertEqual(wirings_text(none), "a * b, c\n")
        self.assertEqual(read_wirings("a * b, c\n"), none)
        self.assertEqual(read_wirings("  a*b ,c "), none)

    def test_text_and_back(self):
        chance = random.Random(41)
        for deed in random_deeds(42, 100):
            told = wirings_of(deed)
            text = wirings_text(told)
            self.assertEqual(text.split("\n")[0], ends_text(deed.ends))
            self.assertEqual(text.count("\n"), 1 + len(told.wirings))
            self.assertEqual(read_wirings(text), told)
            self.assertEqual(read_wirings(loose(text, chance)), told)

    def test_several_of_one_choice(self):
        ends = read_ends("a, a & a, a~, a~ * b")
        wirings = every_wiring(read_ends("a, a & a, a~, a~"))
        told = Wirings(read_ends("a, a & a, a~, a~"), wirings)
        self.assertEqual(len(told.wirings), 4)
        self.assertEqual(read_wirings(wirings_text(told)), told)
        self.assertEqual(wirings_text(Wirings(ends, [])), "a, a & a, a~, a~ * b\n")

    def test_greater_numbers(self):
        ends = [A] * 12 + [anti("a")] * 12
        told = Wirings(ends, [((), tuple((k, k + 12) for k in range(12)))])
        self.assertEqual(wirings_text(told).split("\n")[1][:24], "links 0-12 1-13 2-14 3-1")
        self.assertEqual(read_wirings(wirings_text(told)), told)

    def test_wrong_values(self):
        for value in [None, 5, True, b"a\n", ["a"], TOLD]:
            kind, fields = raised(read_wirings, value)
            self.assertEqual(kind, "BadValue")
            self.assertIs(fields["value"], value)
        for value in [None, TEXT, TOLD.wirings, (TOLD.ends, TOLD.wirings)]:
            kind, fields = raised(wirings_text, value)
            self.assertEqual(kind, "BadValue")
            self.assertIs(fields["value"], value)


class LongestBeginnings(unittest.TestCase):
    def test_told_texts(self):
        for text, at in WRONG_TEXTS:
            with self.subTest(text=text):
                self.assertEqual(raised(read_wirings, text), ("NotAText", {"at": at}))

    def test_each_place_of_right_texts(self):
        texts = [TEXT, " a&b ,a~ + b~\n  at  0 right 1  right  links 1-3 \nat 0 left 1 left links 0-2", "a,a~\nlinks 0-1  \n",
                 "(a*b)&c, d\nat 0 left links 0-9999 12-345 1000-10\n at 99 left 7 right 0 left links 0-0\n"]
        for text in texts:
            check_each_place(self, read_wirings, text)

    def test_whole_beginnings(self):
        text = "a, a~, b, b~\nlinks 0-1 2-3\nlinks 0-1 2-3\n"
        right = []
        for at in range(len(text) + 1):
            try:
                read_wirings(text[:at])
                right.append(at)
            except NotAText as error:
                self.assertEqual(error.at, at)
            except DeedError:
                right.append(-at)
        self.assertEqual(right, [1, 4, 5, 8, 11, 12, 13, -22, -23, 26, 27, -36, -37, 40, 41])


class Errors(unittest.TestCase):
    def test_their_order(self):
        many = ", ".join(["a"] * 41)
        deep = "(" * 13 + "a" + " * a)" * 13 + " * a"
        self.assertEqual(raised(read_wirings, f"{many}, {deep}\nlinks 0-0\nlinks 0")[0], "NotAText")
        self.assertEqual(raised(read_wirings, f"{many}, {deep}\nlinks 0-0"), ("TooDeep", {"most": 12}))
        self.assertEqual(raised(read_wirings, f"{many}\nlinks 0-0"), ("TooMany", {"most": 40}))
        self.assertEqual(raised(read_wirings, "a, a~\nlinks 0-0"), ("BadValue", {"value": ((), ((0, 0),))}))
        self.assertEqual(raised(read_wirings, ends_text([nested(A, 12)]) + " * a")[0], "NotAText")

    def test_the_first_wrong_line(self):
        right = "at 0 left 1 left links 0-2 4-5\n"
        begin = "a & b, a~ + b~, c, c~\n" + right
        for line, value in [
            ("links 0-2 4-5", ((), ((0, 2), (4, 5)))), ("at 1 left 0 left links 0-2 4-5", (((1, 0), (0, 0)), ((0, 2), (4, 5)))),
            ("at 0 left 1 left links 4-5 0-2", (((0, 0), (1, 0)), ((4, 5), (0, 2)))),
            ("at 0 left 1 left links 2-0 4-5", (((0, 0), (1, 0)), ((2, 0), (4, 5)))),
            ("at 0 left 1 left links 0-2", (((0, 0), (1, 0)), ((0, 2),))),
            ("at 0 left 1 right links 0-2 4-5", (((0, 0), (1, 1)), ((0, 2), (4, 5)))),
            ("at 0 left 0 left 1 left links 0-2 4-5", (((0, 0), (0, 0), (1, 0)), ((0, 2), (4, 5)))),
            ("at 9999 right links 9999-0 1000-10", (((9999, 1),), ((9999, 0), (1000, 10)))),
            ("at 0 left 1 left links 0-2 4-5 4-5", (((0, 0), (1, 0)), ((0, 2), (4, 5), (4, 5)))),
        ]:
            with self.subTest(line=line):
                self.assertEqual(raised(read_wirings, begin + line), ("BadValue", {"value": value}))
                self.assertEqual(raised(read_wirings, begin + line + "\n links  0-0\n"), ("BadValue", {"value": value}))


if __name__ == "__main__":
    unittest.main()
