"""[40], [41], [82]: flat forms, and which forms are the same up to deeds."""
import itertools
import random
import unittest

from alldeeds.ends import choices
from alldeeds.flatforms import choice_count, flat_leaves, flat_of, form_of, is_flat, same_forms
from alldeeds.formtexts import read_form
from making import anti, bushy, counter_of, good, raised, random_form

A, B = good("a"), good("b")
SHARED = {"both": "chosen", "between": "offered"}
SHARING = {SHARED[word]: word for word in SHARED}
WORDS = ("both", "between", "offered", "chosen")


def slow_flat(form):
    """The flat form as the document tells it."""
    if len(form) == 2:
        return form
    word = form[0]
    parts = []
    for half in form[1:]:
        flat = slow_flat(half)
        parts.extend(flat[1] if flat[0] == word else [flat])
    return of_parts(word, parts)


def of_parts(word, parts):
    sharing = [part[1] for part in parts if part[0] == SHARED.get(word)]
    if not sharing:
        return (word, tuple(sorted(parts)))
    others = [part for part in parts if part[0] != SHARED[word]]
    found = []
    for row in itertools.product(*sharing):
        told = []
        for part in list(row) + others:
            told.extend(part[1] if part[0] == word else [part])
        found.append((word, tuple(sorted(told))))
    return (SHARED[word], tuple(sorted(found)))


def leaf_total(flat):
    return 1 if isinstance(flat[1], str) else sum(leaf_total(part) for part in flat[1])


def moves(form):
    """All forms that become of the form by exchanging, regrouping or sharing out at one place."""
    if len(form) == 2:
        return []
    word, left, right = form
    found = [(word, right, left)]
    found += [(word, one, right) for one in moves(left)] + [(word, left, one) for one in moves(right)]
    if left[0] == word:
        found.append((word, left[1], (word, left[2], right)))
    if right[0] == word:
        found.append((word, (word, left, right[1]), right[2]))
    if word in SHARED and right[0] == SHARED[word]:
        found.append((right[0], (word, left, right[1]), (word, left, right[2])))
    if word in SHARING and left[0] == right[0] == SHARING[word] and left[1] == right[1]:
        found.append((left[0], left[1], (word, left[2], right[2])))
    return found


def same_class(form):
    """All forms that become of the form by moves."""
    found = {form}
    waiting = [form]
    while waiting:
        for one in moves(waiting.pop()):
            if one not in found:
                found.add(one)
                waiting.append(one)
    return found


def all_forms(many, leaves):
    """All forms with so many leaves."""
    if many == 1:
        return list(leaves)
    found = []
    for first in range(1, many):
        for left, right in itertools.product(all_forms(first, leaves), all_forms(many - first, leaves)):
            found += [(word, left, right) for word in WORDS]
    return found


def moved(chance, form, times):
    for _ in range(times):
        form = chance.choice(moves(form) or [form])
    return form


class FlatOf(unittest.TestCase):
    def test_drawn(self):
        chance = random.Random(401)
        for _ in range(500):
            form = random_form(chance, chance.choice([2, 3, 4]), chance.choice(["a", "ab"]))
            flat = slow_flat(form)
            self.assertEqual(flat_leaves(form), leaf_total(flat))
            if leaf_total(flat) <= 300:
                self.assertEqual(flat_of(form), flat)
                self.assertIs(is_flat(flat), True)
                self.assertIs(is_flat(form), len(form) == 2)

    def test_told(self):
        for text, flat in [
                ("a", A), ("a~", anti("a")), ("b * a", ("both", (A, B))), ("(a | b) | a", ("between", (A, A, B))),
                ("(a & a) & (b & a)", ("offered", (A, A, A, B))), ("a + (a * a)", ("chosen", (("both", (A, A)), A))),
                ("a | (a & b)", ("offered", (("between", (A, A)), ("between", (A, B))))),
                ("a * (a & b)", ("both", (A, ("offered", (A, B))))), ("a | (b + a)", ("between", (("chosen", (A, B)), A))),
                ("(a + b) * (a + b)", ("chosen", (("both", (A, A)), ("both", (A, B)), ("both", (A, B)), ("both", (B, B))))),
                ("((a * b) + b) * (a * a)", ("chosen", (("both", (A, A, A, B)), ("both", (A, A, B)))))]:
            self.assertEqual(flat_of(read_form(text)), flat)

    def test_moved_at_any_place(self):
        """[41]: turned, regrouped and shared out at any place, the flat form is the same."""
        chance = random.Random(402)
        for _ in range(300):
            form = random_form(chance, 3, "ab")
            if flat_leaves(form) > 100:
                continue
            for one in moves(form) + [moved(chance, form, 6)]:
                self.assertEqual(flat_of(one), flat_of(form))
                self.assertIs(same_forms(form, one), True)
                self.assertIs(same_forms(one, form), True)

    def test_nothing_else_is_the_same(self):
        """All small forms: the same exactly if the one becomes the other by moves."""
        forms = [form for many in (1, 2, 3) for form in all_forms(many, (A, B))] + all_forms(4, (A,))
        table = {}
        for form in forms:
            table.setdefault(flat_of(form), set()).add(form)
        self.assertGreater(len(table), 50)
        every = set(forms)
        for form in forms:
            self.assertEqual(table[flat_of(form)], same_class(form) & every)

    def test_forms_that_are_not_the_same(self):
        for one, other in [("a", "a & a"), ("a", "a + a"), ("a * (b & c)", "(a * b) & (a * c)"), ("a | (b + c)", "(a | b) + (a | c)"),
                           ("a", "a~"), ("a * b", "a | b"), ("a & b", "a + b"), ("a * a", "a"), ("a + (b * c)", "(a + b) * (a + c)"),
                           ("a & (b | c)", "(a & b) | (a & c)"), ("a", "b"), ("a * b", "a * b~")]:
            self.assertIs(same_forms(read_form(one), read_form(other)), False)

    def test_one_half_changed(self):
        chance = random.Random(403)
        for _ in range(300):
            form = random_form(chance, 3, "ab")
            other = self.changed(chance, form)
            if flat_leaves(form) <= 300 and flat_leaves(other) <= 300:
                self.assertIs(same_forms(form, other), slow_flat(form) == slow_flat(other))

    def changed(self, chance, form):
        if len(form) == 2 or chance.random() < 0.2:
            return chance.choice([("both", form, form), counter_of(form), good("c"), ("offered", form, form)])
        side = chance.randrange(1, 3)
        return form[:side] + (self.changed(chance, form[side]),) + form[side + 1:]

    def test_counters(self):
        """The counters of forms that are the same are the same."""
        chance = random.Random(404)
        for _ in range(100):
            form = random_form(chance, 3, "ab")
            if flat_leaves(form) <= 300 and flat_leaves(counter_of(form)) <= 300:
                other = moved(chance, form, 4)
                self.assertIs(same_forms(counter_of(form), counter_of(other)), True)


class Counted(unittest.TestCase):
    def test_choice_count(self):
        chance = random.Random(405)
        for _ in range(200):
            form = random_form(chance, 3, "ab")
            self.assertEqual(choice_count(form), len(choices([form])))
            # the choices of a form are those of its flat form
            if flat_leaves(form) <= 300:
                self.assertEqual(choice_count(form), self.flat_choices(flat_of(form)))

    def flat_choices(self, flat):
        if isinstance(flat[1], str):
            return 1
        counts = [self.flat_choices(part) for part in flat[1]]
        if flat[0] in ("offered", "chosen"):
            return sum(counts)
        total = 1
        for many in counts:
            total *= many
        return total

    def test_integers_of_any_size(self):
        form = bushy(11, "both", ("offered", A, B))
        self.assertEqual((choice_count(form), flat_leaves(form)), (2 ** 2048, 4096))
        form = bushy(11, "both", ("chosen", A, B))
        self.assertEqual((choice_count(form), flat_leaves(form)), (2 ** 2048, 2048 * 2 ** 2048))
        form = bushy(12, "between", A)
        self.assertEqual((choice_count(form), flat_leaves(form)), (1, 4096))
        both = bushy(6, "both", bushy(6, "chosen"))
        self.assertEqual((choice_count(both), flat_leaves(both)), (64 ** 64, 64 * 64 ** 64))


class TooManyLeaves(unittest.TestCase):
    def rows(self, many):
        """A chosen form of so many goods."""
        form = A
        forms = [form] * many
        while len(forms) > 1:
            forms = [("chosen", forms[0], forms[1])] + forms[2:] if len(forms) % 2 else [
                ("chosen", forms[k], forms[k + 1]) for k in range(0, len(forms), 2)]
        return forms[0]

    def test_300_and_301(self):
        most = ("both", self.rows(10), self.rows(15))
        self.assertEqual((flat_leaves(most), leaf_total(flat_of(most))), (300, 300))
        more = ("chosen", most, A)
        self.assertEqual(flat_leaves(more), 301)
        self.assertIs(same_forms(most, ("both", most[2], most[1])), True)
        for call in (lambda: flat_of(more), lambda: same_forms(more, A), lambda: same_forms(A, more), lambda: same_forms(more, more)):
            self.assertEqual(raised(call), ("TooMany", {"most": 300}))
        self.assertEqual(flat_leaves(("offered", most, A)), 301)

    def test_behind_bad_value(self):
        more = ("chosen", ("both", self.rows(10), self.rows(15)), A)
        self.assertEqual(raised(same_forms, more, ["x"]), ("BadValue", {"value": ["x"]}))
        self.assertEqual(raised(same_forms, 5, more), ("BadValue", {"value": 5}))
        huge = bushy(12, "both", A)
        self.assertEqual(raised(flat_of, huge), ("TooMany", {"most": 300}))
        self.assertEqual(raised(flat_of, bushy(11, "both", ("chosen", A, B))), ("TooMany", {"most": 300}))


def chain(depth, words=("both", "offered")):
    """A flat form of this depth."""
    flat = A
    for k in range(depth):
        flat = (words[k % len(words)], tuple(sorted([flat, A])))
    return flat


class IsFlat(unittest.TestCase):
    def test_right(self):
        for flat in [A, anti("a"), ("both", (A, A)), ("both", (("between", (A, B)), A)), ("chosen", (("both", (A, A)), A, A)),
                     ("offered", (("chosen", (A, B)), A)), ("between", (("chosen", (A, B)), A)), ("both", (A, ("offered", (A, B))))]:
            self.assertIs(is_flat(flat), True)

    def test_wrong(self):
        for value in [
                None, 5, True, "a", "good", (), ("good",), ("good", "A"), ("good", "a", "b"), ("good", ("a",)), ["good", "a"], ("Good", "a"),
                ("both", A, A), ("both", [A, A]), ("both", ()), ("both", (A,)), ("both", (B, A)), ("both", (A, None)), ("both", "aa"),
                ("both", (A, anti("a"))), ("both", (("both", (A, A)), A)), ("both", (("chosen", (A, A)), A)), ("both", (A, ["good", "b"])),
                ("between", (A, ("offered", (A, A)))), ("between", (("between", (A, B)), A)), ("offered", (A, ("offered", (A, A)))),
                ("chosen", (("chosen", (A, A)), A)), (("both",), (A, A)), ("pair", (A, A)), ("both", {A: 1, B: 2}), object(), {}, {1, 2}]:
            self.assertIs(is_flat(value), False, value)

    def test_24_and_25_deep(self):
        for words in [("both", "offered"), ("between", "chosen"), ("offered", "chosen")]:
            self.assertIs(is_flat(chain(24, words)), True)
            self.assertIs(is_flat(chain(25, words)), False)
        self.assertIs(is_flat(chain(3000)), False)
        self.assertIs(is_flat(("both", (chain(3000), chain(3000)))), False)

    def test_one_tuple_that_stands_often(self):
        flat = A
        for k in range(24):
            flat = (("both", "between")[k % 2], (flat, flat))
        self.assertIs(is_flat(flat), True)
        self.assertEqual(raised(form_of, flat), ("TooDeep", {"most": 12}))
        self.assertIs(is_flat(("both", (flat, flat))), False)
        for wrong in (None, ["good", "a"], ("good", "A"), ("chosen", (A, A))):
            self.assertIs(is_flat(("both", (wrong, wrong))), False)
            self.assertIs(is_flat(("both", (A, A, wrong, wrong))), False)

    def test_flat_forms_with_a_part_changed(self):
        chance = random.Random(406)
        for _ in range(300):
            form = random_form(chance, 3, "ab")
            if len(form) == 2 or flat_leaves(form) > 300:
                continue
            flat = flat_of(form)
            word, parts = flat
            self.assertIs(is_flat((word, list(parts))), False)
            self.assertIs(is_flat(list(flat)), False)
            self.assertIs(is_flat((word, parts[:1])), False)
            self.assertIs(is_flat((word, parts[::-1])), parts == parts[::-1])
            own = (word, parts[:2])
            self.assertIs(is_flat((word, tuple(sorted(parts + (own,))))), False)
            other = (chance.choice(WORDS), tuple(sorted([A, chance.choice([A, B])])))
            fits = other[0] != word and SHARED.get(word) != other[0]
            self.assertIs(is_flat((word, tuple(sorted(parts + (other,))))), fits)
            at = chance.randrange(len(parts))
            self.assertIs(is_flat((word, parts[:at] + (None,) + parts[at + 1:])), False)


class FormOf(unittest.TestCase):
    def test_there_and_back(self):
        chance = random.Random(407)
        told = 0
        for _ in range(300):
            form = random_form(chance, 3, "ab")
            if flat_leaves(form) > 300:
                continue
            flat = flat_of(form)
            try:
                back = form_of(flat)
            except ValueError as error:
                self.assertEqual((type(error).__name__, vars(error)), ("TooDeep", {"most": 12}))
                self.assertGreater(self.depth(flat), 12)
                continue
            told += 1
            self.assertEqual(flat_of(back), flat)
            self.assertIs(same_forms(form, back), True)
            self.assertLessEqual(self.depth(flat), 12)
        self.assertGreater(told, 200)

    def depth(self, flat):
        if isinstance(flat[1], str):
            return 0
        last = len(flat[1]) - 1
        return max(self.depth(part) + min(last, last - at + 1) for at, part in enumerate(flat[1]))

    def test_grouped_from_the_left(self):
        c, d = good("c"), good("d")
        self.assertEqual(form_of(("both", (A, B, c, d))), ("both", ("both", ("both", A, B), c), d))
        self.assertEqual(form_of(("chosen", (("both", (A, A)), B))), ("chosen", ("both", A, A), B))
        self.assertEqual(form_of(A), A)

    def test_12_and_13_deep(self):
        self.assertEqual(form_of(("both", (A,) * 13)), self.left(13))
        self.assertEqual(raised(form_of, ("both", (A,) * 14)), ("TooDeep", {"most": 12}))
        self.assertEqual(raised(form_of, ("both", (A,) * 5000)), ("TooDeep", {"most": 12}))
        self.assertEqual(raised(form_of, chain(13)), ("TooDeep", {"most": 12}))
        self.assertEqual(form_of(chain(12))[0], "offered")

    def left(self, many):
        form = A
        for _ in range(many - 1):
            form = ("both", form, A)
        return form

    def test_bad_value(self):
        for wrong in [("both", (B, A)), ("both", A, B), None, ["good", "a"], chain(25)]:
            self.assertEqual(raised(form_of, wrong), ("BadValue", {"value": wrong}))


if __name__ == "__main__":
    unittest.main()
