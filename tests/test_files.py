"""[55], [56], [93]: items, files and their texts."""
import random
import re
import unittest

from alldeeds.checking import Program
from alldeeds.deeds import Deed
from alldeeds.deedtexts import deed_text, read_deed
from alldeeds.errors import DeedError, NotAText
from alldeeds.files import deeds_of, file_text, read_file
from alldeeds.formtexts import ends_text, read_ends
from alldeeds.likeness import alike
from alldeeds.programdeeds import deed_of_program
from alldeeds.programtexts import program_text, read_program
from growing import grown_programs
from making import bushy, good, link, raised, random_deeds, small_ends

A, B = good("a"), good("b")
X = ("name", "x")
LA = link("a")
# a kind of 21 leaves
WIDE = ("pair", bushy(4, "pair"), ("pair", bushy(2, "pair"), A))
NAMES = ["a", "x1", "let", "ends", "deed", "program", "alike", "abcdefghijkl", "e2", "d", "p", "plain"]
HEADER = re.compile(r" *(ends|deed|program) +([a-z][a-z0-9]{0,11}) *")
PARTS = "|".join(word[:k] for word in ("ends", "deed", "program") for k in range(1, len(word) + 1))
BEGIN = re.compile(rf" *({PARTS})?| *(ends|deed|program)( +([a-z][a-z0-9]{{0,11}} *)?)?")


class Stop(Exception):
    """The length of the longest beginning."""


def is_blank(line):
    return line.strip(" ") == ""


def own_error(read, text):
    """Up to where the text is right, None if it is right."""
    try:
        read(text)
    except NotAText as error:
        return error.at
    except DeedError:
        pass
    return None


def slow_beginning(text):
    """The length of the longest beginning of a text, None if it is the text of a file, by the other functions that read."""
    lines = text.split("\n")
    starts = [sum(len(line) + 1 for line in lines[:k]) for k in range(len(lines))]
    rows = [k for k, line in enumerate(lines) if not is_blank(line)]
    names = []
    while rows:
        k = rows.pop(0)
        found = HEADER.fullmatch(lines[k])
        name = re.match(r" *(?:ends|deed|program) +([a-z][a-z0-9]{0,11})", lines[k])
        if name and name.group(1) in names:
            return starts[k] + name.end()
        if found is None:
            length = max(at for at in range(len(lines[k]) + 1) if BEGIN.fullmatch(lines[k][:at]))
            return starts[k] + length
        if k + 1 == len(lines):
            return len(text)
        names.append(found.group(2))
        if found.group(1) == "deed":
            wrong = slow_deed(lines, starts, rows, len(text))
        elif not rows:
            wrong = len(text)
        else:
            k = rows.pop(0)
            at = own_error(read_ends if found.group(1) == "ends" else read_program, lines[k])
            wrong = None if at is None else starts[k] + at
        if wrong is not None:
            return wrong
    return None


def slow_deed(lines, starts, rows, end):
    """The same for a deed; its rows are taken away."""
    block = []
    while rows and lines[rows[0]].strip(" ")[0] not in "edp":
        block.append(rows.pop(0))
    behind = starts[rows[0]] + len(lines[rows[0]]) - len(lines[rows[0]].lstrip(" ")) if rows else end
    if not block:
        return behind
    joined = "".join(lines[k] + "\n" for k in block)
    at = own_error(read_deed, joined)
    if at is None:
        return None
    if at == len(joined):
        return behind
    for k in block:
        if at <= len(lines[k]):
            return starts[k] + at
        at -= len(lines[k]) + 1


def place(text, at):
    """The line, from 1 on, and the number of characters in it."""
    begin = text[:at]
    return {"line": begin.count("\n") + 1, "at": len(begin.split("\n")[-1])}


def item_lines(item):
    """The lines of the text of an item."""
    rest = {"ends": lambda: ends_text(item[2]), "deed": lambda: deed_text(Deed(item[2])).rstrip("\n"),
            "program": lambda: program_text(item[2], item[3])}[item[0]]()
    return [f"{item[0]} {item[1]}"] + rest.split("\n")


def drawn_items(seed, many):
    chance = random.Random(seed)
    deeds = random_deeds(seed + 1, 80, most_steps=12)
    programs = grown_programs(seed + 2, 60, most_terms=8)
    found = []
    for _ in range(many):
        names = chance.sample(NAMES, chance.randrange(5))
        items = []
        for name in names:
            word = chance.choice(["ends", "deed", "program"])
            items.append({"ends": lambda: ("ends", name, small_ends(chance, 8, 3, "ab")),
                          "deed": lambda: ("deed", name, chance.choice(deeds).steps),
                          "program": lambda: ("program", name, *chance.choice(programs))}[word]())
        found.append(tuple(items))
    return found


def spaced(chance, items):
    """A text of the items with spaces, and lines of spaces, wherever they may stand."""
    lines = []
    for item in items:
        for k, line in enumerate(item_lines(item)):
            lines += [" " * chance.randrange(3) for _ in range(chance.randrange(3) if chance.random() < 0.3 else 0)]
            if k == 0:
                line = line.replace(" ", " " * chance.randrange(1, 4))
            lines.append(" " * chance.randrange(2) + line + " " * chance.randrange(3))
    lines += [" " * chance.randrange(2) for _ in range(chance.randrange(3))]
    return "\n".join(lines) + ("\n" if chance.random() < 0.5 else "")


class ReadFile(unittest.TestCase):
    def test_there_and_back(self):
        chance = random.Random(491)
        for items in drawn_items(492, 120):
            text = "".join(line + "\n" for item in items for line in item_lines(item))
            self.assertEqual(file_text(items), text)
            self.assertEqual(read_file(text), items)
            for _ in range(4):
                self.assertEqual(read_file(spaced(chance, items)), items)

    def test_the_empty_file(self):
        for text in ["", " ", "\n", "  \n\n   \n", "\n "]:
            self.assertEqual(read_file(text), ())
        self.assertEqual((file_text(()), file_text([])), ("", ""))

    def test_told(self):
        text = "ends e\na , a~\n\n  deed   d \n link a\n \nlink b\nboth 1 2 at 0 0\nprogram ends\n x:a;x"
        self.assertEqual(read_file(text), (("ends", "e", (A, ("counter", "a"))), ("deed", "d", ("both", LA, link("b"), 0, 0)),
                                           ("program", "ends", (("x", A),), X)))

    def test_lines_are_counted_within_the_item(self):
        two = "deed d\nlink a\n\nlink b\n   \nboth 1 2 at 0 0\n"
        self.assertEqual(read_file(two + two.replace("d d", "d dd")), (
            ("deed", "d", ("both", LA, link("b"), 0, 0)), ("deed", "dd", ("both", LA, link("b"), 0, 0))))

    def test_no_string(self):
        for value in [None, 5, b"", ["ends e"], ()]:
            self.assertEqual(raised(read_file, value), ("BadValue", {"value": value}))


class NotAFile(unittest.TestCase):
    def check(self, text, line=None, at=None):
        length = slow_beginning(text)
        if length is None:
            self.assertIsNone(line, text)
            try:
                read_file(text)
            except DeedError as error:
                self.assertNotEqual(type(error).__name__, "NotAFile", text)
            return
        right = place(text, length)
        if line is not None:
            self.assertEqual(right, {"line": line, "at": at}, text)
        self.assertEqual(raised(read_file, text), ("NotAFile", right), text)

    def test_told(self):
        for text, line, at in [
                ("x", 1, 0), ("end", 1, 3), ("ends", 1, 4), ("ends ", 1, 5), ("ends e", 1, 6), ("ends e\n", 2, 0), ("ends e\n\n \n", 4, 0),
                ("ends e\na,", 2, 2), ("ends e\na b", 2, 2), ("ends e f\na", 1, 7), ("endse\na", 1, 4), ("ends\ne\na", 1, 4), ("ends E\na", 1, 5),
                ("ends abcdefghijklm\na", 1, 17), ("ends e\na\nb", 3, 0), ("ends e\na\nends e\nb", 3, 6), ("ends e\na\ndeed e", 3, 6),
                ("ends e\na\nends ef\nb", None, None), ("ends e\na\nends exxxxxxxxxxxxx\nb", 3, 17), ("deed d\n", 2, 0), ("deed d\nends e", 2, 0),
                ("deed d\nlink a\nlink b", 3, 6), ("deed d\nlink a\nlink b\n", 4, 0), ("deed d\nlink a\nlink b\n  ends e", 4, 2), ("deed d\nlink a\nfoo", 3, 0),
                ("deed d\nlink a\nboth 1", 3, 1), ("deed d\nlink a\nturn 1 as 1 0\nprogram p\n; x y )", 5, 6), ("deed d\nlink a\nlink", 3, 4),
                ("deed d\nlink a\nlink\n", 3, 4), ("deed d\nlink a b", 2, 7), ("deed d\nturn 1", 2, 0), ("program p", 1, 9), ("program p\n;", 2, 1),
                ("program p\nx : a, x : b ; x", 2, 8), ("program p\nx : a ; x\n x", 3, 1), ("program p\nx : a ;\nx", 2, 7), ("deed d\nlink a\n\tlink b", 3, 0),
                ("ends e\n\ta", 2, 0), ("ends e\ta", 1, 6), ("deed d\nlink a\nde", 3, 2), ("deed d\nlink a\ndeeed", 3, 3), ("\n\n x", 3, 1), ("ends e\na\n\n\n?", 5, 0),
                ("deed d\nlink a\nend", 3, 3), ("deed d\nlink a\nlink b\nend", 4, 0), ("program abcdefghijkl\n; x\nprogram abcdefghijklm", 3, 20)]:
            self.check(text, line, at)

    def test_cut_anywhere(self):
        chance = random.Random(493)
        for items in drawn_items(494, 25):
            text = spaced(chance, items)
            for at in range(len(text) + 1):
                self.check(text[:at])

    def test_changed_anywhere(self):
        chance = random.Random(495)
        signs = "abdepx129 \n\n?~,;:(*|."
        for items in drawn_items(496, 60):
            text = spaced(chance, items)
            for _ in range(60):
                at = chance.randrange(len(text) + 1)
                self.check(text[:at] + chance.choice(signs) + text[at + chance.randrange(2):])
            lines = text.split("\n")
            for _ in range(20):
                k, j = chance.randrange(len(lines)), chance.randrange(len(lines))
                moved = lines[:k] + lines[k + 1:]
                self.check("\n".join(moved[:j] + [chance.choice([lines[k], "link a", "ends zz", "deed a", "between 1 at 0 1"])] + moved[j:]))

    def test_an_item_named_twice(self):
        chance = random.Random(497)
        for items in drawn_items(498, 60):
            if items:
                again = chance.choice(items)
                text = spaced(chance, items).rstrip("\n ") + "\n"
                name = chance.choice(["ends", "deed", "program"]) + " " + again[1]
                for more in ["\n", "", " \n", " x\n"]:
                    self.check(text + name + more)
                    self.assertEqual(raised(read_file, text + name + more)[1], place(text + name, len(text + name)))


class FirstWrongItem(unittest.TestCase):
    def test_each_kind(self):
        deep = "a"
        for _ in range(13):
            deep = f"({deep}) * b" if deep != "a" else "a * b"
        wrong = {
            "ends e\n" + deep: ("TooDeep", {"most": 12}), "ends e\n" + ", ".join(["a"] * 41): ("TooMany", {"most": 40}),
            "deed d\nlink a\nbetween 1 at 0 5": ("WrongStep", {"at": 2}), "deed d\n" + "link a\n" + "".join(f"turn {k} as 1 0\n" for k in range(1, 101)):
            ("TooDeep", {"most": 100}), "deed d2\nlink a\nchoose 1 at 0 left " + deep: ("WrongStep", {"at": 2}),
            "program p\nx : " + deep + " ; x": ("TooDeep", {"most": 12}), "program p\nx : a ; (x, y)": ("WrongTerm", {"path": (1,)}),
            "program q\nx : a, y : a ; x": ("WrongTerm", {"path": ()}),
            "program w\n" + program_text([("x", WIDE)], X): ("TooMany", {"most": 40})}
        texts = list(wrong)
        for text in texts:
            self.assertEqual(raised(read_file, text), wrong[text])
            self.assertEqual(raised(read_file, "ends zz\na\n" + text + "\n"), wrong[text])
            for other in texts:
                if other.split("\n")[0] != text.split("\n")[0]:
                    self.assertEqual(raised(read_file, text.rstrip("\n") + "\n" + other), wrong[text])
            self.assertEqual(raised(read_file, text.rstrip("\n") + "\n?")[0], "NotAFile")

    def test_many_steps(self):
        lines = ["link a"] * 256
        row, number = list(range(1, 257)), 256
        while len(row) > 1:
            more = []
            for k in range(0, len(row), 2):
                lines.append(f"hand {row[k]} {row[k + 1]} at 1 0")
                number += 1
                more.append(number)
            row = more
        self.assertEqual(raised(read_file, "deed d\n" + "\n".join(lines)), ("TooMany", {"most": 400}))

    def test_40_leaves(self):
        wide = ("pair", bushy(4, "pair"), bushy(2, "pair"))
        self.assertEqual(len(read_file("program p\n" + program_text([("x", wide)], X))), 1)
        self.assertEqual(raised(read_file, "program p\n" + program_text([("x", WIDE)], X)), ("TooMany", {"most": 40}))


class FileText(unittest.TestCase):
    def test_lists_for_tuples(self):
        items = (("ends", "e", (A, B)), ("deed", "d", LA), ("program", "p", (("x", A),), X))
        text = "ends e\na, b\ndeed d\nlink a\nprogram p\nx : a ; x\n"
        lists = [["ends", "e", [A, B]], ["deed", "d", LA], ["program", "p", [("x", A)], X]]
        for file in (items, list(items), tuple(lists), lists):
            self.assertEqual(file_text(file), text)
            self.assertEqual(sorted(deeds_of(file)), ["d", "p"])

    def test_what_is_no_file(self):
        right = ("ends", "e", (A,))
        for wrong in [("ends", "e"), ("ends", "E", (A,)), ("ends", "e", A), ("ends", "e", ()), ("ends", "e", (A, [A])), ("ends", "e", (A,), 5), ("deed", "d"),
                      ("deed", "d", list(LA)), ("deed", "d", ("link", "A")), ("deed", "d", Deed(LA)), ("program", "p", ()), ("program", "p", (), X),
                      ("program", "p", (["x", A],), X), ("program", "p", (("x", A),), ["name", "x"]), ("program", "p", (("x", WIDE),), X), ("term", "t", X),
                      ("program", "p", (("x", A), ("y", A)), X), None, 5, "ends e", (), [], right + (5,), ("ends", 5, (A,)), (5, "e", (A,)), ("ends", "e" * 13, (A,)),
                      ("ends", "e", (A,) * 41), ("deed", "d", None), {"ends": "e"}, (["ends"], "e", (A,))]:
            for file in ((wrong,), [right, wrong] if wrong != right else [wrong], (("ends", "f", (B,)), wrong)):
                for call in (file_text, deeds_of):
                    self.assertEqual(raised(call, file), ("BadValue", {"value": file}))
        for file in [None, 5, "", {}, (right, right), (right, ("deed", "e", LA)), right]:
            for call in (file_text, deeds_of):
                self.assertEqual(raised(call, file), ("BadValue", {"value": file}))

    def test_deeds_of(self):
        for items in drawn_items(499, 40):
            deeds = deeds_of(items)
            self.assertEqual(list(deeds), [item[1] for item in items if item[0] != "ends"])
            for item in items:
                if item[0] == "deed":
                    self.assertEqual(deeds[item[1]], Deed(item[2]))
                elif item[0] == "program":
                    right = deed_of_program(Program(item[2], item[3]))
                    self.assertTrue(alike(deeds[item[1]], right))
            deeds["more"] = None
            self.assertNotIn("more", deeds_of(items))


if __name__ == "__main__":
    unittest.main()
