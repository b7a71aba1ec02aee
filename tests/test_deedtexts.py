"""[11], [65]: texts of deeds."""
import random
import unittest

from alldeeds.deeds import Deed, plain_deed, step_of
from alldeeds.deedtexts import deed_text, read_deed
from alldeeds.errors import NotAText
from alldeeds.formtexts import form_text, read_form
from making import bushy, check_each_place, good, link, nested, raised, random_deeds

LA, LB = link("a"), link("b")
PAIR = ("both", LA, LB, 0, 0)

# texts that are none, and the lengths of their longest beginnings
WRONG_TEXTS = [
    ("", 0), (" ", 1), ("   ", 3), ("\n", 0), (" \n", 1), ("Link a", 0), ("l", 1), ("lin", 3), ("lint a", 3), ("link", 4),
    ("link ", 5), ("link\n", 4), ("link \n", 5), ("linka", 4), ("link\ta", 4), ("link A", 5), ("link 1", 5), ("link a b", 7),
    ("link a~", 6), ("link abcdefghijklm", 17), ("link abcdefghijkl m", 18), ("link a,", 6), ("link  ", 6), ("x", 0),
    # with no line ahead only a link can stand, with one line no both, offer, hand
    ("between 1 at 0 1", 0), ("both 1 2 at 0 0", 0), ("turn 1 as 0 1", 0), ("choose 1 at 0 left a", 0), ("offer", 0),
    ("link a\nboth 1 2 at 0 0", 8), ("link a\noffer 1 2 at 0 0", 7), ("link a\nhand 1 2 at 0 1", 7), ("link a\nbet", 10),
    ("link a\n  both 1 1 at 0 0", 10), ("link a\nlink b\nboth 1 2 at 0 0\nboth 3 3 at 0 0", 31),
    # empty lines, and what stops too early
    ("link a\n\n", 7), ("link a\n ", 8), ("link a\n  \n", 9), ("\nlink a", 0), ("link a\n\nlink b", 7), ("link a\nlink b", 13),
    ("link a\nlink b\n", 14), ("link a \n link b \n ", 18), ("link a\nlink b\nboth 1 2 at 0 0\n ", 31), ("link a \nl", 9),
    # numbers of lines
    ("link a\nbetween", 14), ("link a\nbetween1 at 0 1", 14), ("link a\nbetween ", 15), ("link a\nbetween 0 at 0 1", 15),
    ("link a\nbetween 2 at 0 1", 15), ("link a\nbetween 01 at 0 1", 15), ("link a\nbetween 1at 0 1", 16),
    ("link a\nbetween 10 at 0 1", 16), ("link a\nbetween 11 at 0 1", 16), ("link a\nbetween -1 at 0 1", 15),
    ("link a\nbetween a", 15), ("link a\nlink b\nboth 1 1 at 0 0", 21), ("link a\nlink b\nboth 2 2 at 0 0", 21),
    ("link a\nlink b\nboth 1 3 at 0 0", 21), ("link a\nlink b\nboth 3 1 at 0 0", 19), ("link a\nlink b\nboth 12 at 0 0", 20),
    ("link a\nlink b\nboth 1 at 0 0", 21), ("link a\nlink b\nboth 1 2 3 at 0 0", 23), ("link a\nlink b\nboth 1 2at 0 0", 22),
    ("link a\nlink b\nboth 1 2 at 0 0\nturn 1 as 0 1 2", 35), ("link a\nlink b\nboth 1 2 at 0 0\nturn 2 as 0 1 2", 35),
    ("link a\nturn 1 as 1 0\nturn 1 as 1 0", 26), ("link a\nturn 1 as 1 0\nturn 3 as 1 0", 26),
    ("link a\nturn 1 as 1 0\nboth 1 2 at 0 0", 22),
    # words and numbers of ends
    ("link a\nbetween 1 ", 17), ("link a\nbetween 1 as 0 1", 18), ("link a\nbetween 1 at", 19), ("link a\nbetween 1 at0 1", 19),
    ("link a\nbetween 1 at 0", 21), ("link a\nbetween 1 at 0 ", 22), ("link a\nbetween 1 at 01", 21),
    ("link a\nbetween 1 at 40 1", 21), ("link a\nbetween 1 at 39 1 0", 25), ("link a\nbetween 1 at 0 400", 23),
    ("link a\nbetween 1 at 0 391", 24), ("link a\nbetween 1 at 00 1", 21), ("link a\nbetween 1 at -1 1", 20),
    ("link a\nbetween 1 at 0 1 left a", 24), ("link a\nbetween 1 at 0 1x", 23), ("link a\nbetween 1 at 0,1", 21),
    # turns
    ("link a\nturn 1 as", 16), ("link a\nturn 1 as ", 17), ("link a\nturn 1 as\n", 16), ("link a\nturn 1 at 0 1", 15),
    ("link a\nturn 1 as 0 40", 20), ("link a\nturn 1 as 0 1 x", 21), ("link a\nturn 1 as 0 01", 20),
    ("link a\nturn 1 as 0 1,", 20), ("link a\nturn 1 as0 1", 16), ("link a\nturn 1 1 as 0 1", 14), ("link a\nturn 1 as x", 17),
    # chooses
    ("link a\nchoose 1 at 0", 20), ("link a\nchoose 1 at 0 ", 21), ("link a\nchoose 1 at 0 lift a", 22),
    ("link a\nchoose 1 at 0 left", 25), ("link a\nchoose 1 at 0 left ", 26), ("link a\nchoose 1 at 0 lefta", 25),
    ("link a\nchoose 1 at 0 right~", 26), ("link a\nchoose 1 at 0 right(a)", 28), ("link a\nchoose 1 at 0 right(a*b)", 31),
    ("link a\nchoose 1 at 0 left a b", 28), ("link a\nchoose 1 at 0 left a *", 29), ("link a\nchoose 1 at 0 left a *\n", 29),
    ("link a\nchoose 1 at 0 left a * b * c", 32), ("link a\nchoose 1 at 0 left a,b", 27), ("link a\nchoose 1 at 0 0 a", 21),
    ("link a\nchoose 1 at 0 left\na", 25), ("link a\nchoose 1 at 0 left (a\n*b)", 28), ("link a\nchoose 1 at 0left a", 20),
    ("link a\nchoose 1 at 0 1 left a", 21), ("link a\nchoose 1 at 0 left 1", 26), ("link a\nchoose 1 at 0 left a ~", 28),
    ("link a\nchoose 1 at 0 le", 23), ("link a\nchoose 1 at 40 left a", 20),
    # a letter that only some line could not have
    ("link a\nlink b\nbath", 15), ("link a\nlink b\nbut", 15), ("link a\nlink b\nbetter", 17), ("link a\nlink b\ncheese", 16),
    ("link a\nlink b\noften", 16), ("link a\nlink b\nhang", 17), ("link a\nlink b\ntune", 16), ("link a\nlink b\nBOTH", 14),
]


def lines_in(text):
    return text.split("\n")[:-1]


def shuffled_lines(deed, chance):
    """A text of the deed with its lines in another order that the document lets."""
    steps = [step_of(deed, at) for at in range(1, deed.size() + 1)]
    lines = lines_in(deed_text(deed))
    within, waiting = [], []
    for at, line in enumerate(lines):
        many = {"link": 0, "both": 2, "offer": 2, "hand": 2}.get(line.split()[0], 1)
        within.append(waiting[len(waiting) - many:])
        waiting[len(waiting) - many:] = [at]
    placed, order = {}, []
    while len(order) < len(steps):
        ready = [at for at in range(len(steps)) if at not in placed and all(k in placed for k in within[at])]
        if len(ready) > 1 and len(steps) - 1 in ready:
            ready.remove(len(steps) - 1)
        at = chance.choice(ready)
        placed[at] = len(order) + 1
        order.append(at)
    told = []
    for at in order:
        words = lines[at].split(" ")
        for k, number in enumerate(within[at]):
            words[1 + k] = str(placed[number])
        told.append(" ".join(words))
    return "\n".join(told)


class Texts(unittest.TestCase):
    def test_each_line(self):
        deed = Deed(("turn", ("choose", ("offer", ("between", PAIR, 1, 0), ("hand", ("turn", ("between", PAIR, 1, 0), (0, 1)),
                    plain_deed(read_form("b~ | a~")).steps, 1, 1), 1, 1), 1, 1, read_form("a & (b * c~)")), (1, 0)))
        self.assertEqual(lines_in(deed_text(deed))[:4], ["link a", "link b", "both 1 2 at 0 0", "between 3 at 1 0"])
        self.assertEqual(lines_in(deed_text(deed))[-4:], ["hand 9 16 at 1 1", "offer 4 17 at 1 1",
                                                          "choose 18 at 1 right a & (b * c~)", "turn 19 as 1 0"])
        self.assertEqual(read_deed(deed_text(deed)), deed)

    def test_sides(self):
        self.assertEqual(deed_text(Deed(("choose", LA, 1, 0, good("c")))), "link a\nchoose 1 at 1 left c\n")
        self.assertEqual(deed_text(Deed(("choose", LA, 0, 1, ("both", good("c"), good("d"))))),
                         "link a\nchoose 1 at 0 right c * d\n")
        self.assertEqual(deed_text(Deed(LA)), "link a\n")
        self.assertEqual(read_deed("link a\nchoose 1 at 0 left c").steps, ("choose", LA, 0, 0, good("c")))
        self.assertEqual(read_deed("link a\nchoose 1 at 0 right c").steps, ("choose", LA, 0, 1, good("c")))

    def test_text_and_back(self):
        chance = random.Random(21)
        for deed in random_deeds(22, 120):
            text = deed_text(deed=deed)
            self.assertTrue(text.endswith("\n"))
            self.assertEqual(len(lines_in(text)), deed.size())
            self.assertEqual(read_deed(text), deed)
            self.assertEqual(read_deed(text=text[:-1]), deed)
            for _ in range(2):
                self.assertEqual(read_deed(shuffled_lines(deed, chance)), deed)

    def test_spaces(self):
        text = ("  link   a  \nlink b\n both  2   1  at   0  0\n  choose 3   at 2  left( a*b )  + c~ \nturn  4 as  2 1   0 \n"
                "choose 5 at 0 right   x \n")
        steps = ("both", LB, LA, 0, 0)
        steps = ("turn", ("choose", steps, 2, 0, read_form("(a * b) + c~")), (2, 1, 0))
        self.assertEqual(read_deed(text).steps, ("choose", steps, 0, 1, good("x")))
        self.assertEqual(read_deed("link a \nchoose 1 at 0 right(a*b)|c").steps, ("choose", LA, 0, 1, read_form("(a * b) | c")))

    def test_lines_in_any_order(self):
        told = Deed(("both", ("between", PAIR, 0, 1), ("turn", link("c"), (1, 0)), 1, 0))
        for text in ["link a\nlink b\nboth 1 2 at 0 0\nbetween 3 at 0 1\nlink c\nturn 5 as 1 0\nboth 4 6 at 1 0",
                     "link c\nlink b\nturn 1 as 1 0\nlink a\nboth 4 2 at 0 0\nbetween 5 at 0 1\nboth 6 3 at 1 0",
                     "link b\nlink a\nlink c\nturn 3 as 1 0\nboth 2 1 at 0 0\nbetween 5 at 0 1\nboth 6 4 at 1 0"]:
            self.assertEqual(read_deed(text), told)

    def test_many_lines(self):
        text = "".join(f"link a\n" for _ in range(12))
        text += "hand 10 11 at 1 0\nhand 13 12 at 1 0\nhand 1 14 at 1 0\nhand 2 15 at 1 0\n"
        text += "".join(f"hand {k} {k + 13} at 1 0\n" for k in range(3, 10))
        self.assertEqual(read_deed(text).size(), 23)
        self.assertEqual(read_deed(text).ends, (good("a"), ("counter", "a")))

    def test_wrong_values(self):
        for value in [None, PAIR, 5, "link a", [LA]]:
            kind, fields = raised(deed_text, value)
            self.assertEqual(kind, "BadValue")
            self.assertIs(fields["value"], value)
        for value in [None, 5, True, b"link a", ["link a"], PAIR, Deed(LA)]:
            kind, fields = raised(read_deed, value)
            self.assertEqual(kind, "BadValue")
            self.assertIs(fields["value"], value)


class LongestBeginnings(unittest.TestCase):
    def test_told_texts(self):
        for text, at in WRONG_TEXTS:
            with self.subTest(text=text):
                self.assertEqual(raised(read_deed, text), ("NotAText", {"at": at}))

    def test_each_place_of_right_texts(self):
        chance = random.Random(23)
        texts = [" link  a \nlink b\n both  2 1 at 0  0\nchoose 3 at 2 left(a*b)+ c~ \n turn 4 as 2 1 0\nlink abcdefghijkl\n"
                 "offer 5 6 at 39 1\nbetween 7 at 12 20\nlink q\nhand 8 9 at 3 3\nchoose 10 at 1 right x\n"]
        texts += [shuffled_lines(deed, chance) for deed in random_deeds(24, 40)]
        for text in texts:
            check_each_place(self, read_deed, text)

    def test_beginnings_of_texts_stop_too_early(self):
        text = deed_text(Deed(("both", ("between", PAIR, 0, 1), PAIR, 1, 2)))
        self.assertEqual(text, "link a\nlink b\nboth 1 2 at 0 0\nbetween 3 at 0 1\nlink a\nlink b\nboth 5 6 at 0 0\n"
                               "both 4 7 at 1 2\n")
        whole = [text[:k] for k in range(len(text) + 1)]
        right = []
        for part in whole:
            try:
                read_deed(part)
                right.append(part)
            except NotAText as error:
                self.assertEqual(error.at, len(part))
        ends = ["link a", "link a\nlink b\nboth 1 2 at 0 0", "link a\nlink b\nboth 1 2 at 0 0\nbetween 3 at 0 1", text[:-1]]
        self.assertEqual(right, [part for end in ends for part in (end, end + "\n")])

    def test_numbers_with_two_digits(self):
        links = "link a\n" * 12
        used = links + "hand 1 2 at 1 0\nhand 13 3 at 1 0\n"
        for begin, tail, at in [(links, "hand 1 13", 8), (links, "hand 13", 6), (links, "hand 12 1 ", None),
                                (links, "hand 12 12", 9), (links, "hand 120", 7), (links, "hand 1 1 ", 8),
                                (links, "hand 9 90", 7), (links, "hand 0", 5), (links, "hand 10 1 at", None),
                                (used, "hand 1 4", 6), (used, "hand 2 4", 5), (used, "hand 3 4", 5), (used, "hand 13 4", 6),
                                (used, "hand 14 1 at", 9), (used, "hand 14 12 at", None), (used, "hand 15 4", 6),
                                (used, "hand 4 14 at", None), (used, "hand 14 14", 9), (used, "hand 4 5 at 0 1\nhand 14 15 ", None),
                                (used, "hand 4 5 at 0 1\nhand 4", 21)]:
            with self.subTest(tail=tail, used=begin == used):
                text = begin + tail
                self.assertEqual(raised(read_deed, text), ("NotAText", {"at": len(text) if at is None else len(begin) + at}))

    def test_long_numbers(self):
        text = "link a\nbetween 1 at 0 " + "1" * 6000
        self.assertEqual(raised(read_deed, text), ("NotAText", {"at": 24}))
        self.assertEqual(raised(read_deed, "link a\nbetween " + "1" * 6000), ("NotAText", {"at": 16}))


class Bounds(unittest.TestCase):
    def test_wrong_steps(self):
        for text, at in [("link a\nbetween 1 at 0 0", 2), ("link a\nturn 1 as 0", 2), ("link a\nturn 1 as 0 0 0 39", 2),
                         ("link a\nlink b\nhand 1 2 at 0 0", 3), ("link a\nbetween 1 at 0 39\nturn 2 as 0", 2),
                         ("link b\nlink a\nboth 2 1 at 2 0\nturn 3 as 0", 3), ("link a\nchoose 1 at 2 left a", 2),
                         ("link a\nlink a\nturn 2 as 5\nboth 3 1 at 0 0", 2)]:
            with self.subTest(text=text):
                self.assertEqual(raised(read_deed, text), ("WrongStep", {"at": at}))

    def test_forms_of_any_depth(self):
        for many in (12, 13, 400, 4000):
            form = "(" * many + "a" + " * b)" * many + " & c"
            self.assertEqual(raised(read_deed, "link a\nchoose 1 at 0 left " + form), ("WrongStep", {"at": 2}))
            self.assertEqual(raised(read_deed, "link a\nchoose 1 at 0 left " + form + " & d"),
                             ("NotAText", {"at": 25 + len(form) + 2}))
        deep = form_text(nested(good("a"), 11))
        self.assertEqual(read_deed("link a\nchoose 1 at 0 left " + deep).size(), 2)
        self.assertEqual(raised(read_deed, f"link a\nchoose 1 at 0 left ({deep}) * a"), ("WrongStep", {"at": 2}))
        self.assertEqual(raised(read_deed, "link a\nchoose 1 at 0 left " + form_text(bushy(6))), ("WrongStep", {"at": 2}))

    def test_however_many_lines(self):
        def turned(many):
            return "link a\n" + "".join(f"turn {k + 1} as 1 0\n" for k in range(many))

        self.assertEqual(read_deed(turned(99)).size(), 100)
        self.assertEqual(raised(read_deed, turned(100)), ("TooDeep", {"most": 100}))
        self.assertEqual(raised(read_deed, turned(399)), ("TooDeep", {"most": 100}))
        self.assertEqual(raised(read_deed, turned(400)), ("TooMany", {"most": 400}))
        self.assertEqual(raised(read_deed, turned(5000)), ("TooMany", {"most": 400}))
        self.assertEqual(raised(read_deed, turned(5000) + "x"), ("NotAText", {"at": len(turned(5000))}))
        wrong = "link a\nturn 1 as 5\n" + "".join(f"turn {k + 2} as 1 0\n" for k in range(399))
        self.assertEqual(raised(read_deed, wrong), ("TooMany", {"most": 400}))
        many = "link a\n" * 1500
        self.assertEqual(raised(read_deed, many), ("NotAText", {"at": len(many)}))
        joined = many + "both 1 2 at 0 0\n" + "".join(f"both {k} {k + 1498} at 0 0\n" for k in range(3, 1501))
        self.assertEqual(raised(read_deed, joined), ("TooMany", {"most": 400}))


if __name__ == "__main__":
    unittest.main()
