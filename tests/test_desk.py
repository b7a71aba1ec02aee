"""[58], [59], [96]: the desk."""
import random
import unittest

from alldeeds.deeds import Deed
from alldeeds.deedtexts import deed_text
from alldeeds.desk import Desk
from alldeeds.errors import BadValue, Broken, DeedError, NothingToUndo, TooMany, Unknown
from alldeeds.files import deeds_of, file_text, read_file
from alldeeds.likeness import alike
from alldeeds.promises import promise_text, read_promise
from alldeeds.questions import asked
from making import link, passed_on, raised

LA = link("a")
TEXT = """ends e
a, a~
deed d
link a
program p
x : a ; x
ends f
a * b
ends g
b * a
"""
KEPT = ["d for e", "e open", "d plain", "f same g", "e has 1", "d apart 1", "p alike p"]


def state(desk):
    return desk.lines(), desk.names(), desk.promises()


def all_of(desk):
    """All that can be seen of a desk: its state, and what undo and redo lead to; the desk is as it was behind that."""
    past, future = [], []
    here = state(desk)
    while True:
        try:
            desk.undo()
        except NothingToUndo:
            break
        past.append(state(desk))
    for _ in past:
        desk.redo()
    while True:
        try:
            desk.redo()
        except DeedError:
            break
        future.append(state(desk))
    for _ in future:
        desk.undo()
    return here, past, future


class Slow:
    """A desk as the document tells it: a list of items, a list of promises, and lists of states."""

    def __init__(self, text=""):
        self.items, self.made, self.back, self.on = list(read_file(text)), [], [], []
        self.inside = 0

    def now(self):
        return list(self.items), list(self.made)

    def edit(self, items, made):
        if not self.inside:
            self.look(items, made)
        self.back.append(self.now())
        self.on = []
        self.items, self.made = items, made

    def look(self, items, made):
        for promise in made:
            holds, paper = asked(items, promise)
            if not holds:
                raise Broken(promise_text(promise), paper)

    def put(self, text):
        items = list(self.items)
        for item in read_file(text):
            places = [k for k, old in enumerate(items) if old[1] == item[1]]
            if places:
                items[places[0]] = item
            else:
                items.append(item)
        self.edit(items, self.made)

    def drop(self, name):
        if name not in [item[1] for item in self.items]:
            raise Unknown(name)
        self.edit([item for item in self.items if item[1] != name], self.made)

    def rename(self, name, new):
        names = [item[1] for item in self.items]
        if name not in names:
            raise Unknown(name)
        if new in names:
            return Desk(file_text(self.items)).rename(name, new)
        made = []
        for promise in self.made:
            told = (promise[0],) + tuple(new if part == name else part for part in promise[1:])
            if told not in made:
                made.append(told)
        self.edit([(item[0], new if item[1] == name else item[1]) + item[2:] for item in self.items], made)

    def keep(self, text):
        promise = read_promise(text)
        self.edit(self.items, self.made + [promise] * (promise not in self.made))

    def release(self, text):
        promise = read_promise(text)
        if promise not in self.made:
            return Desk().release(text)
        self.edit(self.items, [told for told in self.made if told != promise])

    def undo(self):
        if not self.back:
            raise NothingToUndo()
        self.on.append(self.now())
        self.items, self.made = self.back.pop()

    def redo(self):
        if not self.on:
            return Desk().redo()
        self.back.append(self.now())
        self.items, self.made = self.on.pop()

    def attempt(self, action):
        held = self.now(), list(self.back), list(self.on)
        self.back, self.on = [], []
        self.inside += 1
        try:
            told = action(self)
            if self.inside == 1:
                self.look(self.items, self.made)
        except BaseException:
            (self.items, self.made), self.back, self.on = held
            self.inside -= 1
            raise
        self.inside -= 1
        self.back, self.on = held[1] + [held[0]], []
        return told

    def seen(self):
        return file_text(self.items), tuple(item[1] for item in self.items), [promise_text(told) for told in self.made]


class Boom(Exception):
    pass


def outcome(call, *told):
    try:
        return ("told", call(*told))
    except DeedError as error:
        return (type(error).__name__, sorted((name, repr(value)) for name, value in vars(error).items()))
    except Boom:
        return ("boom",)


ITEM_TEXTS = ["ends e\na, a~", "ends e\na~, a", "deed d\nlink a", "deed d\nlink b", "deed d\nlink a\nlink a\nhand 1 2 at 1 0", "program p\nx : a ; x",
              "program p\nx : a ; (fn y : a . y) x", "ends f\na * b\nends g\nb * a", "ends f\na | b", "ends e\na, a~\ndeed h\nlink a", "", "deed h\nlink b",
              "ends q\na, a\nends e\na, a~", "deed", "ends e\na\nends e\nb", "program p\nx : a ; y"]
NAMES = ["e", "d", "p", "f", "g", "h", "q", "zz"]


def drawn_act(chance):
    """A name of a method and what it is passed."""
    word = chance.choice(["put"] * 4 + ["drop", "rename", "rename"] + ["keep"] * 4 + ["release", "undo", "undo", "undo", "redo", "redo", "attempt"])
    if word == "put":
        return word, chance.choice(ITEM_TEXTS)
    if word == "drop":
        return word, chance.choice(NAMES)
    if word == "rename":
        return word, chance.choice(NAMES), chance.choice(NAMES)
    if word in ("keep", "release"):
        one, other = chance.choice(NAMES), chance.choice(NAMES)
        return word, chance.choice([f"{one} for {other}", f"{one} open", f"{one} plain", f"{one} alike {other}", f"{one} same {other}", f"{one} has 1",
                                    f"{one} apart 1", f"{one} has 0"] + KEPT * 2 + ["nothing"])
    if word == "attempt":
        return word, [drawn_act(chance) for _ in range(chance.randrange(5))], chance.choice(["go on", "go on", "raise", "stop at an error"])
    return (word,)


def play(desk, act, log):
    """Does what is told, and puts what comes of it into the log."""
    word, *told = act
    if word != "attempt":
        found = outcome(getattr(desk, word), *told)
        log.append(found)
        return found
    acts, ending = told

    def action(inner):
        for one in acts:
            found = play(inner, one, log)
            if found[0] != "told" and ending == "stop at an error":
                raise Unknown("an error within")
        if ending == "raise":
            raise Boom()
        return len(acts)

    found = outcome(desk.attempt, action)
    log.append(found)
    return found


class Histories(unittest.TestCase):
    def test_drawn(self):
        """Long histories, each act beside a slow desk; at the end all is undone and done again."""
        counts = {}
        for seed in range(12):
            chance = random.Random(seed)
            desk, slow = Desk(TEXT), Slow(TEXT)
            for _ in range(120):
                act = drawn_act(chance)
                log, slow_log = [], []
                play(desk, act, log)
                play(slow, act, slow_log)
                self.assertEqual(log, slow_log, act)
                self.assertEqual(state(desk), slow.seen())
                for found in log:
                    counts[found[0]] = counts.get(found[0], 0) + 1
            self.assertEqual(len(all_of(desk)[1]), len(slow.back))
            self.assertEqual(len(all_of(desk)[2]), len(slow.on))
            while slow.back:
                slow.undo()
                desk.undo()
                self.assertEqual(state(desk), slow.seen())
            self.assertEqual(state(desk), (file_text(read_file(TEXT)), read_names(TEXT), []))
            while slow.on:
                slow.redo()
                desk.redo()
                self.assertEqual(state(desk), slow.seen())
        for word in ("told", "Broken", "Unknown", "Taken", "NotAFile", "WrongTerm", "BadPromise", "NotMade", "NothingToUndo", "NothingToRedo", "boom"):
            self.assertGreater(counts.get(word, 0), 3, word)

    def test_long_one(self):
        desk = Desk()
        for k in range(400):
            desk.put(f"deed d{k % 40}\nlink a\n" + "turn 1 as 1 0\n" * (k % 2))
        self.assertEqual(len(desk.names()), 40)
        for _ in range(400):
            desk.undo()
        self.assertEqual(raised(desk.undo), ("NothingToUndo", {}))
        self.assertEqual(state(desk), ("", (), []))
        for _ in range(400):
            desk.redo()
        self.assertEqual(raised(desk.redo), ("NothingToRedo", {}))
        self.assertEqual(len(desk.names()), 40)


def read_names(text):
    return tuple(item[1] for item in read_file(text))


class Told(unittest.TestCase):
    def kept(self):
        desk = Desk(TEXT)
        for promise in KEPT:
            self.assertIsNone(desk.keep(promise))
        return desk

    def test_what_is_told(self):
        desk = self.kept()
        self.assertEqual(state(desk), (TEXT, ("e", "d", "p", "f", "g"), KEPT))
        self.assertIsInstance(desk.names(), tuple)
        self.assertEqual(state(Desk()), ("", (), []))
        self.assertEqual(desk.deed("d"), Deed(LA))
        self.assertTrue(alike(desk.deed("p"), Deed(("turn", LA, (1, 0)))))
        for name in ("e", "zz", "", "Z"):
            self.assertEqual(raised(desk.deed, name), ("Unknown", {"name": name}))
        for promise in ["d for e", "e has 7", "d alike p", "zz open", "e open"]:
            self.assertEqual(desk.ask(promise), asked(read_file(TEXT), read_promise(promise)))
        self.assertEqual(raised(desk.ask, "nothing"), ("BadPromise", {"promise": "nothing"}))
        self.assertEqual(raised(desk.ask, 5), ("BadValue", {"value": 5}))

    def test_new_each_time(self):
        desk = self.kept()
        desk.promises().clear()
        self.assertEqual(desk.promises(), KEPT)
        self.assertEqual(desk.deed("d"), desk.deed("d"))

    def test_puts(self):
        desk = Desk(TEXT)
        self.assertIsNone(desk.put("deed z\nlink b\ndeed e\nlink b\nends a1\na"))
        self.assertEqual(desk.names(), ("e", "d", "p", "f", "g", "z", "a1"))
        self.assertEqual(desk.deed("e"), Deed(link("b")))
        desk.put("")
        self.assertEqual(len(desk.names()), 7)
        for text, error in [("x", ("NotAFile", {"line": 1, "at": 0})), ("deed d\nlink a\nbetween 1 at 0 0", ("WrongStep", {"at": 2})), (5, ("BadValue", {"value": 5}))]:
            self.assertEqual(raised(desk.put, text), error)
            self.assertEqual(raised(Desk, text), error)
        self.assertEqual(len(all_of(desk)[1]), 2)

    def test_drops(self):
        desk = Desk(TEXT)
        desk.drop("d")
        self.assertEqual(desk.names(), ("e", "p", "f", "g"))
        self.assertEqual(raised(desk.drop, "d"), ("Unknown", {"name": "d"}))
        for wrong in (None, 5, b"e", ["e"]):
            self.assertEqual(raised(desk.drop, wrong), ("BadValue", {"value": wrong}))
            self.assertEqual(raised(desk.deed, wrong), ("BadValue", {"value": wrong}))

    def test_renames(self):
        desk = self.kept()
        desk.rename("e", "open")
        desk.rename("f", "has")
        self.assertEqual(desk.promises(), ["d for open", "open open", "d plain", "has same g", "open has 1", "d apart 1", "p alike p"])
        self.assertEqual(desk.names(), ("open", "d", "p", "has", "g"))
        for name, new, error in [(5, 6, ("BadValue", {"value": 5})), ("d", "D", ("BadValue", {"value": "D"})), ("zz", "", ("BadValue", {"value": ""})),
                                 ("zz", "d", ("Unknown", {"name": "zz"})), ("zz", "zz", ("Unknown", {"name": "zz"})), ("d", "d", ("Taken", {"name": "d"})),
                                 ("d", "p", ("Taken", {"name": "p"})), ("Z", "p", ("Unknown", {"name": "Z"})), ("d", None, ("BadValue", {"value": None}))]:
            self.assertEqual(raised(desk.rename, name, new), error)
        self.assertEqual(len(all_of(desk)[1]), len(KEPT) + 2)

    def test_promises_that_become_equal(self):
        """The first one stays; they can become equal within an attempt alone."""
        desk = Desk("ends a\nb, b~\nends c\nb, b~")
        for promise in ("a open", "c open", "c has 1", "a has 1"):
            desk.keep(promise)

        def action(inner):
            inner.drop("a")
            inner.rename("c", "a")
            return inner.promises()

        self.assertEqual(desk.attempt(action), ["a open", "a has 1"])
        self.assertEqual((desk.promises(), desk.names()), (["a open", "a has 1"], ("a",)))
        desk.undo()
        self.assertEqual(desk.promises(), ["a open", "c open", "c has 1", "a has 1"])

    def test_keeps_and_releases(self):
        desk = self.kept()
        desk.keep("  d   for e ")
        self.assertEqual(desk.promises(), KEPT)
        self.assertEqual(len(all_of(desk)[1]), len(KEPT) + 1)
        desk.release(" d for   e")
        self.assertEqual(desk.promises(), KEPT[1:])
        self.assertEqual(raised(desk.release, " d  for e"), ("NotMade", {"promise": "d for e"}))
        for call in (desk.keep, desk.release):
            self.assertEqual(raised(call, "d fore e"), ("BadPromise", {"promise": "d fore e"}))
            self.assertEqual(raised(call, None), ("BadValue", {"value": None}))
        desk.keep("d for e")
        self.assertEqual(desk.promises(), KEPT[1:] + KEPT[:1])


class Breaking(unittest.TestCase):
    def check(self, desk, call, promise, paper=None):
        before = all_of(desk)
        found = raised(call)
        self.assertEqual(found, ("Broken", {"promise": promise, "paper": paper}))
        self.assertEqual(all_of(desk), before)

    def test_acts_that_would_break_a_promise(self):
        desk = Desk(TEXT)
        for promise in KEPT:
            desk.keep(promise)
        desk.keep("d alike d")
        self.check(desk, lambda: desk.drop("e"), "d for e")
        self.check(desk, lambda: desk.drop("d"), "d for e")
        self.check(desk, lambda: desk.drop("p"), "p alike p")
        self.check(desk, lambda: desk.drop("g"), "f same g")
        self.check(desk, lambda: desk.put("ends e\na, a"), "d for e")
        self.check(desk, lambda: desk.put("deed d\nlink a\nlink a\nhand 1 2 at 1 0"), "d plain")
        self.check(desk, lambda: desk.put("ends f\na | b"), "f same g")
        self.check(desk, lambda: desk.keep("e has 2"), "e has 2", 1)
        self.check(desk, lambda: desk.keep("  d  apart   5"), "d apart 5", 1)
        self.check(desk, lambda: desk.keep("zz open"), "zz open")
        desk.release("d for e")
        self.check(desk, lambda: desk.put("ends e\na, a"), "e open")
        desk.release("e open")
        self.check(desk, lambda: desk.put("ends e\na, a"), "e has 1", 0)
        desk.rename("d", "dd")
        self.check(desk, lambda: desk.drop("dd"), "dd plain")

    def test_paper_of_alike(self):
        desk = Desk("deed s\nlink a\nlink a\nboth 1 2 at 0 0\ndeed t\nlink a\nlink a\nboth 1 2 at 0 0")
        desk.keep("s alike t")
        with self.assertRaises(Broken) as caught:
            desk.put("deed t\nlink a\nlink a\nboth 1 2 at 0 0\nturn 3 as 1 0 2")
        self.assertEqual(caught.exception.promise, "s alike t")
        self.assertEqual(caught.exception.paper[0] in (0, 1), True)
        self.assertEqual(desk.promises(), ["s alike t"])

    def test_questions_that_raise(self):
        """What asked raises is raised, the promises being looked at in their order."""
        many = "deed many\n" + deed_text(passed_on(11))
        desk = Desk("deed many\nlink a\nends e\na, a~")
        desk.keep("many alike many")
        desk.keep("many for e")
        before = all_of(desk)
        self.assertEqual(raised(desk.put, many), ("TooMany", {"most": 2000}))
        self.assertEqual(all_of(desk), before)
        desk.release("many alike many")
        desk.keep("many alike many")
        self.assertEqual(raised(desk.put, many), ("Broken", {"promise": "many for e", "paper": None}))
        desk.release("many for e")
        self.assertEqual(raised(desk.put, many), ("TooMany", {"most": 2000}))
        desk.release("many alike many")
        desk.put(many)
        self.assertEqual(raised(desk.keep, "many apart 1"), ("TooMany", {"most": 2000}))
        self.assertEqual(raised(desk.ask, "many apart 1"), ("TooMany", {"most": 2000}))
        self.assertEqual(desk.promises(), [])


class Attempts(unittest.TestCase):
    def test_promises_are_looked_at_in_the_end(self):
        desk = Desk(TEXT)
        for promise in KEPT:
            desk.keep(promise)
        before = all_of(desk)

        def action(inner):
            self.assertIs(inner, desk)
            inner.drop("e")
            inner.drop("d")
            inner.keep("zz open")
            inner.release("zz open")
            inner.put("deed d\nlink a\nends e\na, a~")
            return ("any", inner.names())

        self.assertEqual(desk.attempt(action), ("any", ("p", "f", "g", "d", "e")))
        here, past, future = all_of(desk)
        self.assertEqual((past, future), ([before[0]] + before[1], []))
        desk.undo()
        self.assertEqual(state(desk), before[0])

    def test_a_promise_broken_in_the_end(self):
        desk = Desk(TEXT)
        for promise in KEPT:
            desk.keep(promise)
        desk.undo()
        before = all_of(desk)

        def action(inner):
            inner.drop("g")
            inner.drop("e")
            inner.keep("d plain")

        self.assertEqual(raised(desk.attempt, action), ("Broken", {"promise": "d for e", "paper": None}))
        self.assertEqual(all_of(desk), before)

    def test_errors_of_any_kind(self):
        desk = Desk(TEXT)
        desk.put("")
        desk.put("deed m\nlink a")
        desk.undo()
        before = all_of(desk)
        for error in (ValueError, KeyError, TypeError, RuntimeError, ZeroDivisionError, StopIteration, KeyboardInterrupt, SystemExit, GeneratorExit, Boom,
                      MemoryError, RecursionError, AttributeError):
            def action(inner):
                inner.drop("e")
                inner.put("deed n\nlink a")
                inner.undo()
                raise error("why")
            with self.assertRaises(error) as caught:
                desk.attempt(action)
            self.assertEqual(caught.exception.args, ("why",))
            self.assertEqual(all_of(desk), before)
        self.assertEqual(raised(desk.attempt, lambda inner: inner.drop("none")), ("Unknown", {"name": "none"}))
        self.assertEqual(all_of(desk), before)

    def test_errors_that_are_caught_within(self):
        desk = Desk(TEXT)

        def action(inner):
            try:
                inner.drop("none")
            except Unknown:
                inner.drop("e")

        self.assertIsNone(desk.attempt(action))
        self.assertEqual(desk.names(), ("d", "p", "f", "g"))

    def test_attempts_within_attempts(self):
        desk = Desk(TEXT)
        desk.keep("e open")
        names = []

        def inner_action(inner):
            self.assertEqual(raised(inner.undo), ("NothingToUndo", {}))
            inner.drop("e")
            inner.drop("d")
            inner.undo()
            names.append(inner.names())
            inner.redo()
            self.assertEqual(raised(inner.redo), ("NothingToRedo", {}))
            return 7

        def failing(inner):
            inner.drop("p")
            raise Boom()

        def action(outer):
            outer.drop("g")
            self.assertEqual(outer.attempt(inner_action), 7)
            names.append(outer.names())
            self.assertRaises(Boom, outer.attempt, failing)
            names.append(outer.names())
            outer.undo()
            names.append(outer.names())
            outer.undo()
            names.append(outer.names())
            self.assertEqual(raised(outer.undo), ("NothingToUndo", {}))
            outer.redo()
            outer.redo()
            names.append(outer.names())
            outer.put("ends e\na~, a")

        desk.attempt(action)
        self.assertEqual(names, [("d", "p", "f"), ("p", "f"), ("p", "f"), ("e", "d", "p", "f"), ("e", "d", "p", "f", "g"), ("p", "f")])
        self.assertEqual((desk.names(), desk.promises()), (("p", "f", "e"), ["e open"]))
        desk.undo()
        self.assertEqual(desk.names(), ("e", "d", "p", "f", "g"))
        desk.redo()
        self.assertEqual(desk.names(), ("p", "f", "e"))

    def test_inner_ends_do_not_look_at_promises(self):
        desk = Desk(TEXT)
        desk.keep("e open")

        def action(outer):
            outer.attempt(lambda inner: inner.drop("e"))
            self.assertRaises(Boom, outer.attempt, self.raising)
            self.assertEqual(outer.ask("e open"), (False, None))
            return outer.promises()

        self.assertEqual(raised(desk.attempt, action), ("Broken", {"promise": "e open", "paper": None}))
        self.assertEqual((desk.names()[0], desk.promises()), ("e", ["e open"]))

        def mended(outer):
            outer.attempt(action)
            outer.put("ends e\na~, a")

        self.assertIsNone(desk.attempt(mended))
        self.assertEqual((desk.names()[-1], desk.promises()), ("e", ["e open"]))

    def raising(self, inner):
        inner.keep("zz open")
        raise Boom()

    def test_an_attempt_that_does_nothing_is_an_edit(self):
        desk = Desk(TEXT)
        desk.drop("e")
        desk.undo()
        self.assertEqual(desk.attempt(lambda inner: None), None)
        self.assertEqual(raised(desk.redo), ("NothingToRedo", {}))
        desk.undo()
        self.assertEqual(raised(desk.undo), ("NothingToUndo", {}))

    def test_no_function(self):
        desk = Desk(TEXT)
        before = all_of(desk)
        for wrong in (None, 5, True, 1.5, "x", b"x", [], (), {}, {1}, object(), Deed(LA), Desk()):
            with self.assertRaises(BadValue) as caught:
                desk.attempt(wrong)
            self.assertIs(caught.exception.value, wrong)
        self.assertEqual(all_of(desk), before)

    def test_any_function(self):
        desk = Desk("deed d\nlink a")

        class Called:
            def __call__(self, told):
                return told.names()

            def act(self, told):
                return told.lines()

        self.assertEqual(desk.attempt(Called()), ("d",))
        self.assertEqual(desk.attempt(Called().act), "deed d\nlink a\n")
        self.assertEqual(desk.attempt(Desk.names), ("d",))
        self.assertIs(desk.attempt(type), Desk)


class Desks(unittest.TestCase):
    def test_equal_only_to_themselves(self):
        one, other = Desk(TEXT), Desk(TEXT)
        self.assertTrue(one == one and one != other)
        self.assertEqual(state(one), state(other))

    def test_deeds(self):
        desk = Desk(TEXT)
        for name, deed in deeds_of(read_file(TEXT)).items():
            self.assertTrue(alike(desk.deed(name), deed))

    def test_too_many(self):
        self.assertEqual(raised(Desk, "ends e\n" + ", ".join(["a"] * 41)), ("TooMany", {"most": 40}))
        self.assertIsInstance(TooMany(40), DeedError)


if __name__ == "__main__":
    unittest.main()
