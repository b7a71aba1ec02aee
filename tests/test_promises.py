"""[57], [94]: promises and their texts."""
import random
import unittest

from alldeeds.promises import promise_text, read_promise
from making import raised

NAMES = ["a", "x1", "alike", "for", "plain", "open", "has", "same", "apart", "let", "abcdefghijkl"]
SORTS = {"alike": "nn", "for": "nn", "plain": "n", "open": "n", "has": "nk", "same": "nn", "apart": "nk"}
NUMBERS = [0, 1, 9, 10, 99, 100, 1000, 9999]


def all_promises():
    found = []
    for word, sorts in SORTS.items():
        for one in NAMES:
            if sorts == "n":
                found.append((word, one))
            else:
                found += [(word, one, other) for other in (NAMES if sorts == "nn" else NUMBERS)]
    return found


def told_text(promise):
    return " ".join([promise[1], promise[0]] + [str(part) for part in promise[2:]])


class Promises(unittest.TestCase):
    def test_all_sorts(self):
        chance = random.Random(501)
        for promise in all_promises():
            text = told_text(promise)
            self.assertEqual(promise_text(promise), text)
            self.assertEqual(promise_text(list(promise)), text)
            self.assertEqual(read_promise(text), promise)
            spaced = " " * chance.randrange(3) + (" " * chance.randrange(1, 4)).join(text.split(" ")) + " " * chance.randrange(3)
            self.assertEqual(read_promise(spaced), promise)
            self.assertIsInstance(read_promise(spaced), tuple)

    def test_tuples_that_are_none(self):
        for wrong in [None, 5, "x plain", (), ("plain",), ("plain", "x", "y"), ("alike", "x"), ("alike", "x", 5), ("has", "e"), ("has", "e", "2"),
                      ("has", "e", -1), ("has", "e", 10000), ("has", "e", True), ("has", "e", 2.0), ("has", 2, "e"), ("apart", "x", 10 ** 20), ("Plain", "x"),
                      ("plain", "X"), ("plain", ""), ("plain", "a" * 13), ("open", 5), ("open", None), ("is", "x"), (5, "x"), (["plain"], "x"), {"plain": "x"},
                      ("for", "x", "e", "f"), ("same", "e", ["f"]), (None, "x"), {"plain", "x"}, object()]:
            self.assertEqual(raised(promise_text, wrong), ("BadValue", {"value": wrong}))

    def test_texts_that_are_none(self):
        for text in ["", " ", "x", "plain", "x  ", "x plain y", "x has", "x has 02", "x has 00", "x has 10000", "x has -1", "x has +1", "x has 1 2", "x has y",
                     "x alike", "x alike 5", "alike x y", "x Plain", "X plain", "x\tplain", "x plain\n", "\nx plain", "xplain", "x has 2x", "x has x2", "x has 1.0",
                     "x is y", "abcdefghijklm plain", "1x plain", "x apart 0001", "x has 99999999999999999999", "x, plain", "e same", "e same f g", "e open f",
                     "x for", "x for 1e", "has has has", "x has 1_0"]:
            self.assertEqual(raised(read_promise, text), ("BadPromise", {"promise": text}))

    def test_words_as_names(self):
        self.assertEqual(read_promise("plain plain"), ("plain", "plain"))
        self.assertEqual(read_promise("for for for"), ("for", "for", "for"))
        self.assertEqual(read_promise("has has 0"), ("has", "has", 0))
        self.assertEqual(read_promise("plain has 7"), ("has", "plain", 7))

    def test_changed_texts(self):
        """A text is one of a promise exactly if its words, put together again, are one."""
        chance = random.Random(502)
        right = {told_text(promise): promise for promise in all_promises()}
        for text in chance.sample(sorted(right), 150):
            for _ in range(10):
                at = chance.randrange(len(text) + 1)
                changed = text[:at] + chance.choice(["", " ", "0", "x", "A", "\t", "-"]) + text[at + chance.randrange(2):]
                words = [word for word in changed.split(" ") if word]
                if " ".join(words) in right:
                    self.assertEqual(read_promise(changed), right[" ".join(words)])
                else:
                    self.check(changed, words)

    def check(self, text, words):
        try:
            promise = read_promise(text)
        except ValueError as error:
            self.assertEqual((type(error).__name__, vars(error)), ("BadPromise", {"promise": text}))
        else:
            self.assertEqual(told_text(promise).split(" "), words)

    def test_no_string(self):
        for value in [None, 5, b"x plain", ("plain", "x"), ["x plain"]]:
            self.assertEqual(raised(read_promise, value), ("BadValue", {"value": value}))


if __name__ == "__main__":
    unittest.main()
