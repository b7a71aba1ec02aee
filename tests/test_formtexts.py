"""[7], [62]: texts of forms and ends, and the longest beginnings of those that are none."""
import itertools
import random
import unittest

from alldeeds.errors import NotAText
from alldeeds.formtexts import ends_text, form_text, read_ends, read_form
from making import anti, bushy, good, nested, raised, random_form

A, B = good("a"), good("b")

# texts of forms that go wrong, and the lengths of their longest beginnings
WRONG_FORMS = [
    ("", 0), (" ", 1), ("   ", 3), ("A", 0), ("1", 0), ("~", 0), (" ~a", 1), ("*", 0), ("* a", 0), (")", 0), ("()", 1),
    ("( )", 2), ("a b", 2), ("a~~", 2), ("a ~", 2), ("a~ ~", 3), ("a~b", 2), ("a~1", 2), ("a(", 1), ("a (b * c)", 2),
    ("a *", 3), ("a * ", 4), ("a**b", 2), ("a * * b", 4), ("a * b *", 6), ("a * b * c", 6), ("a*b|c", 3), ("a * b c", 6),
    ("a * b)", 5), ("a)", 1), ("(a)", 2), ("(a )", 3), ("((a*b))", 6), ("(a*b)", 5), ("(a*b) ", 6), ("(a*b)c", 5),
    ("(a*b)*", 6), ("(a*b)*c*d", 7), ("(a*b*c)*d", 4), ("(a*b", 4), ("(a*b ", 5), ("(a", 2), ("(", 1), ("((", 2),
    ("((a", 3), ("a * (b", 6), ("a * (b * c", 10), ("a * (b)", 6), ("a * (b * c) * d", 12), ("a * (b * c))", 11),
    ("abcdefghijklm", 12), ("abcdefghijkl m", 13), ("abcdefghijklm*a", 12), ("a * abcdefghijkl1", 16), ("aB", 1),
    ("a_b", 1), ("a-b", 1), ("a,b", 1), ("a * b,", 5), ("a\t", 1), ("\ta", 0), ("a\n", 1), ("a *\nb", 3), ("a & b + c", 6),
    ("a % b", 2), ("a . b", 2), ("a -> b", 2), ("a~ * b~ ~", 8), ("a1 * 1", 5), ("a[", 1), ("abcdefghijkl~~", 13),
]

# likewise for ends, where a comma may stand
WRONG_ENDS = [
    ("", 0), ("  ", 2), (",", 0), ("a,", 2), ("a, ", 3), ("a,,b", 2), (", a", 0), ("a, b,", 5), ("a, *", 3), ("(a, b)", 2),
    ("(a * b), c", 7), ("a * b, (c * d)", 14), ("a * b, (c * d) , e", 15), ("a * (b, c)", 6), ("a b, c", 2),
    ("a, b * c * d", 9), ("a, b~ ~", 6), ("a, bcdefghijklmn", 15), ("a;b", 1), ("a,\nb", 2), ("a, b\n", 4), ("a, B", 3),
    ("a * b * c, d", 6), ("a, 1", 3),
]


def spread(text, chance):
    """The text with spaces wherever they may stand."""
    parts = []
    for k, sign in enumerate(text):
        inside = k > 0 and text[k - 1].isalnum() and (sign.isalnum() or sign == "~")
        if not inside and sign != " ":
            parts.append(" " * chance.randrange(3))
        if sign != " ":
            parts.append(sign)
    return "".join(parts) + " " * chance.randrange(3)


class FormTexts(unittest.TestCase):
    def test_signs_and_brackets(self):
        pair = ("both", A, B)
        for form, text in [
            (A, "a"), (anti("a1"), "a1~"), (pair, "a * b"), (("between", A, B), "a | b"), (("offered", A, B), "a & b"),
            (("chosen", A, B), "a + b"), (("both", pair, pair), "(a * b) * (a * b)"),
            (("chosen", ("both", pair, anti("c")), A), "((a * b) * c~) + a"), (("offered", A, pair), "a & (a * b)"),
            (("between", A, ("between", B, ("between", A, anti("b")))), "a | (b | (a | b~))"),
        ]:
            with self.subTest(text=text):
                self.assertEqual(form_text(form), text)
                self.assertEqual(read_form(text), form)

    def test_text_and_back(self):
        chance = random.Random(2)
        for _ in range(300):
            form = random_form(chance, 5, ("a", "b7", "abcdefghijkl"))
            text = form_text(form)
            self.assertEqual(read_form(text), form)
            self.assertEqual(read_form(text.replace(" ", "")), form)
            self.assertEqual(read_form(spread(text, chance)), form)

    def test_names_like_words(self):
        self.assertEqual(read_form("both*good"), ("both", good("both"), good("good")))

    def test_depth_twelve_and_thirteen(self):
        text = form_text(nested(A, 12))
        self.assertEqual(read_form(text), nested(A, 12))
        self.assertEqual(read_form(form_text(bushy(12))), bushy(12))
        self.assertEqual(raised(read_form, f"({text}) * a"), ("TooDeep", {"most": 12}))
        self.assertEqual(raised(read_form, f"a | ({text})"), ("TooDeep", {"most": 12}))
        self.assertEqual(raised(read_form, f"({text}) * a * b"), ("NotAText", {"at": len(text) + 7}))

    def test_hundreds_of_brackets(self):
        for many in (13, 400, 5000):
            left = "(" * many + "a" + " * b)" * many + " & c"
            self.assertEqual(raised(read_form, left), ("TooDeep", {"most": 12}))
            right = "c + " + "(b | " * many + "a" + ")" * many
            self.assertEqual(raised(read_form, right), ("TooDeep", {"most": 12}))
            self.assertEqual(raised(read_form, "(" * many), ("NotAText", {"at": many}))
            self.assertEqual(raised(read_form, right + ")"), ("NotAText", {"at": len(right)}))
            self.assertEqual(raised(read_form, left[:-4]), ("NotAText", {"at": len(left) - 4}))
            self.assertEqual(raised(read_form, left.replace("a", "a *", 1)), ("NotAText", {"at": many + 4}))

    def test_longest_beginnings(self):
        for text, at in WRONG_FORMS:
            with self.subTest(text=text):
                self.assertEqual(raised(read_form, text), ("NotAText", {"at": at}))

    def test_each_place_of_a_right_text(self):
        text = "  (a1 *( b~|c )) & ((d+e~ )*abcdefghijkl~) "
        form = read_form(text)
        self.assertEqual(form_text(form), "(a1 * (b~ | c)) & ((d + e~) * abcdefghijkl~)")
        for at in range(len(text) - 1):
            with self.subTest(at=at):
                self.assertEqual(raised(read_form, text[:at]), ("NotAText", {"at": at}))
                for sign in "?A\t\n,":
                    self.assertEqual(raised(read_form, text[:at] + sign + text[at:]), ("NotAText", {"at": at}))

    def test_beginnings_are_the_longest(self):
        """What is read goes on to a form; with one sign more nothing goes on to one."""
        tails = ["", "a", "*a", "a*a", "~"]
        ends = ["", "*a"]

        def goes_on(beginning):
            brackets = beginning.count("(") - beginning.count(")")
            if brackets < 0:
                return False
            for tail in tails:
                for closing in itertools.product((")", "*a)"), repeat=brackets):
                    for end in ends:
                        try:
                            read_form(beginning + tail + "".join(closing) + end)
                            return True
                        except NotAText:
                            pass
            return False

        chance = random.Random(3)
        for _ in range(400):
            text = "".join(chance.choice("aab~*+() ") for _ in range(chance.randrange(1, 8)))
            try:
                read_form(text)
            except NotAText as error:
                self.assertTrue(goes_on(text[:error.at]), text)
                self.assertFalse(error.at < len(text) and goes_on(text[:error.at + 1]), text)

    def test_wrong_values(self):
        for value in [None, 5, True, b"a", ["a"], ("good", "a"), {}]:
            for call in (read_form, read_ends):
                kind, fields = raised(call, value)
                self.assertEqual(kind, "BadValue")
                self.assertIs(fields["value"], value)
        for value in ["a", None, ["good", "a"], ("both", A), nested(A, 13), [A]]:
            kind, fields = raised(form_text, value)
            self.assertEqual(kind, "BadValue")
            self.assertIs(fields["value"], value)


class EndsTexts(unittest.TestCase):
    def test_text_and_back(self):
        ends = [("both", A, B), anti("a"), ("chosen", A, ("offered", B, A))]
        text = "a * b, a~, a + (b & a)"
        self.assertEqual(ends_text(ends), text)
        self.assertEqual(ends_text(tuple(ends)), text)
        self.assertEqual(read_ends(text), ends)
        self.assertIsInstance(read_ends(text), list)
        self.assertEqual(read_ends(text.replace(" ", "")), ends)
        self.assertEqual(read_ends("  a*b  ,a~ ,  a +( b&a )  "), ends)
        self.assertEqual(read_ends("a"), [A])

    def test_forty_leaves_and_more(self):
        self.assertEqual(read_ends(", ".join(["a"] * 40)), [A] * 40)
        self.assertEqual(ends_text([A] * 40), ", ".join(["a"] * 40))
        self.assertEqual(raised(read_ends, ", ".join(["a"] * 41)), ("TooMany", {"most": 40}))
        half = form_text(bushy(4))
        self.assertEqual(len(read_ends(f"{half}, {half}, a * a, (a * a) * (b * b), a, a~")), 6)
        self.assertEqual(raised(read_ends, f"{half}, {half}, a * a, (a * a) * (b * b), a, a~, b"), ("TooMany", {"most": 40}))
        self.assertEqual(raised(read_ends, form_text(bushy(6))), ("TooMany", {"most": 40}))
        self.assertEqual(raised(read_ends, ", ".join(["a"] * 3000)), ("TooMany", {"most": 40}))

    def test_order_of_errors(self):
        many = ", ".join(["a"] * 50)
        deep = form_text(nested(A, 12))
        self.assertEqual(raised(read_ends, f"{many}, ({deep}) * a, a b")[0], "NotAText")
        self.assertEqual(raised(read_ends, f"{many}, ({deep}) * a"), ("TooDeep", {"most": 12}))
        self.assertEqual(raised(read_ends, f"({deep}) * a, {many}"), ("TooDeep", {"most": 12}))
        self.assertEqual(raised(read_ends, many), ("TooMany", {"most": 40}))

    def test_longest_beginnings(self):
        for text, at in WRONG_ENDS:
            with self.subTest(text=text):
                self.assertEqual(raised(read_ends, text), ("NotAText", {"at": at}))

    def test_each_place_of_a_right_text(self):
        text = " a1 , (b~| c) &d,e * (f+ g~) ,h~ "
        self.assertEqual(ends_text(read_ends(text)), "a1, (b~ | c) & d, e * (f + g~), h~")
        for at in range(len(text)):
            with self.subTest(at=at):
                for sign in "?A\t\n;":
                    self.assertEqual(raised(read_ends, text[:at] + sign + text[at:]), ("NotAText", {"at": at}))
        for end in range(len(text)):
            begun = text[:end].split(",")
            whole = begun[-1].strip() and begun[-1].count("(") == begun[-1].count(")") and begun[-1].strip()[-1] not in "&|+*"
            if not whole or begun[-1].strip() == "(b~| c)":
                self.assertEqual(raised(read_ends, text[:end]), ("NotAText", {"at": end}))
            else:
                self.assertEqual(len(read_ends(text[:end])), len(begun))

    def test_wrong_ends(self):
        for ends in [None, "a", 5, [], (), A, {}, [A, "a"], [A, None], [["good", "a"]], [A] * 41, [nested(A, 13)],
                     [bushy(6)], [bushy(5), bushy(3), A], {A: 1}]:
            with self.subTest(ends=ends):
                kind, fields = raised(ends_text, ends)
                self.assertEqual(kind, "BadValue")
                self.assertIs(fields["value"], ends)


if __name__ == "__main__":
    unittest.main()
