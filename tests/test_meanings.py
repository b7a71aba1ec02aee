"""[29], [32], [33], [34], [35], [79]: meanings of Wirings and of deeds."""
import itertools
import random
import unittest

from alldeeds.back import deed_of
from alldeeds.deeds import Deed, plain_deed
from alldeeds.entries import choice_of, things_of
from alldeeds.formtexts import ends_text, read_ends, read_form
from alldeeds.likeness import alike
from alldeeds.meanings import entry_count, fits, joined_meaning, meaning, meaning_of
from alldeeds.wired import wirings_of
from alldeeds.wirings import Wirings
from making import (all_steps, anti, every_wiring, form_entries, forked_deeds, good, handing_deeds, leaf_list, link, names_in,
                    raised, random_deeds, small_ends, steps_meaning, told)

A, B = good("a"), good("b")
LA, LB = link("a"), link("b")
PAIR = ("both", LA, LB, 0, 0)
OFFER = ("offer", LA, LA, 0, 0)
PLAIN = ((), ((0, 1),))
PICK = told("a & a, a~", [(((0, 0),), ((0, 2),)), (((0, 1),), ((1, 2),))])
BIG = 10 ** 30
SHIFTS = [((), ((0, 3 + k), (1, 3 + (1 + k) % 3), (2, 3 + (2 + k) % 3))) for k in range(3)]


def slow_fits(wirings, entry):
    """The wirings with the choice of the entry and with equal things at linked leaves."""
    things = dict(things_of(wirings.ends, entry))
    found = []
    for choice, links in wirings.wirings:
        if choice == choice_of(wirings.ends, entry) and all(things[i] == things[j] for i, j in links):
            found.append((choice, links))
    return tuple(found)


def slow_meaning(wirings, sets):
    """All entries of the ends that fit some wiring."""
    every = itertools.product(*[form_entries(end, sets) for end in wirings.ends])
    return [entry for entry in sorted(every) if slow_fits(wirings, entry)]


def slow_count(rows, many):
    """How many entries over so many things fit one of some wirings of one choice: by all sets of them."""
    total = 0
    for size in range(1, len(rows) + 1):
        for some in itertools.combinations(rows, size):
            group = {}
            for _, links in some:
                for i, j in links:
                    one, other = group.get(i, i), group.get(j, j)
                    group = {leaf: one if group.get(leaf, leaf) == other else group.get(leaf, leaf) for leaf in [i, j, *group]}
            total += (-1) ** (size + 1) * many ** len(set(group.values()))
    return total


def ends_sets(ends, many):
    return {name: many for end in ends for name in names_in(end)}


def drawn_wirings(seed, many, most_leaves=7):
    """Some wirings of drawn ends, which need not come of a deed."""
    chance = random.Random(seed)
    found = []
    while len(found) < many:
        ends = small_ends(chance, most_leaves, 4, "ab" if chance.random() < 0.3 else "a")
        every = every_wiring(ends)
        if every and len(every) < 500:
            found.append(Wirings(ends, chance.sample(every, min(len(every), chance.randrange(1, 7)))))
    return found


class OfWirings(unittest.TestCase):
    def check(self, wirings, sets):
        found = meaning_of(wirings, sets)
        self.assertIsInstance(found, list)
        self.assertEqual(found, slow_meaning(wirings, sets))
        self.assertEqual(entry_count(wirings, sets), len(found))
        self.assertTrue(all(fits(wirings, entry) for entry in found))

    def test_drawn(self):
        chance = random.Random(301)
        for some in drawn_wirings(302, 200):
            self.check(some, {"a": chance.randrange(1, 4), "b": chance.randrange(1, 3)} if len(leaf_list(some.ends)) < 6
                       else {"a": 2, "b": 1})

    def test_told(self):
        self.assertEqual(meaning_of(PICK, {"a": 1}), [((0, 0), 0), ((1, 0), 0)])
        self.assertEqual(meaning_of(told("a, a~", [PLAIN]), {"a": 3, "b": 0}), [(0, 0), (1, 1), (2, 2)])
        for text in ("a, a~", "b * b", "a + a"):
            self.assertEqual(meaning_of(told(text, []), {"a": 2, "b": 2}), [])
            self.assertEqual(entry_count(told(text, []), {"a": BIG, "b": 2}), 0)

    def test_several_of_one_choice(self):
        two = told("a, a, a~, a~", [((), ((0, 2), (1, 3))), ((), ((0, 3), (1, 2)))])
        for many in (1, 2, 3):
            self.check(two, {"a": many})
            self.assertEqual(entry_count(two, {"a": many}), 2 * many ** 2 - many)

    def test_shifts(self):
        """[34]: over two things all six links of three goods have no other meaning than those three that shift."""
        ends = read_ends("a, a, a, a~, a~, a~")
        shifts, every = Wirings(ends, SHIFTS), Wirings(ends, every_wiring(ends))
        self.assertEqual((len(shifts.wirings), len(every.wirings)), (3, 6))
        self.assertEqual(meaning_of(shifts, {"a": 2}), meaning_of(every, {"a": 2}))
        self.assertNotEqual(meaning_of(shifts, {"a": 3}), meaning_of(every, {"a": 3}))
        self.check(shifts, {"a": 3})

    def test_20000_entries_and_more(self):
        """20,000 entries, and one more by a fork with one link on its other side."""
        steps = plain_deed(read_form("a & b")).steps
        for text in ["a & b"] * 3 + ["a"] * 5:
            steps = ("both", steps, plain_deed(read_form(text)).steps, 0, 0)
        many = wirings_of(Deed(steps))
        sets = {"a": 2, "b": 3, "c": 1}
        self.assertEqual(len(meaning_of(many, sets)), 20000)
        self.assertEqual(raised(meaning_of, many, {"a": 3, "b": 3}), ("TooMany", {"most": 20000}))
        rows = list(many.ends)
        while len(rows) > 2:
            rows = [("between", rows[0], rows[1])] + rows[2:-1] + [rows[-1]] if len(rows) % 2 else [
                ("between", rows[k], rows[k + 1]) for k in range(0, len(rows), 2)]
        whole = ("between", rows[0], rows[1])
        shifted = [(((0, 0),) + tuple((fork + 1, side) for fork, side in choice), links) for choice, links in many.wirings]
        forked = [("offered", whole, read_form("c | c~"))]
        other = (((0, 1),), ((26, 27),))
        self.assertEqual(len(meaning_of(Wirings(forked, shifted), sets)), 20000)
        self.assertEqual(raised(meaning_of, Wirings(forked, shifted + [other]), sets), ("TooMany", {"most": 20000}))
        self.assertEqual(len(meaning_of(Wirings(forked, shifted[1:] + [other]), {**sets, "c": 3})), 19491)

    def test_equal_entries_count_once(self):
        """23,328 pairs of a wiring and an entry, but 19,440 entries; 21,870 of them are too many."""
        def two(many_b, many_c):
            text = ", ".join(["a, a, a~, a~"] + ["b, b~"] * many_b + ["c, c~"] * many_c)
            more = tuple((k, k + 1) for k in range(4, 4 + 2 * (many_b + many_c), 2))
            return told(text, [((), ((0, 2), (1, 3)) + more), ((), ((0, 3), (1, 2)) + more)])

        self.assertEqual(len(meaning_of(two(4, 4), {"a": 3, "b": 2, "c": 3})), 19440)
        self.assertEqual(raised(meaning_of, two(1, 6), {"a": 3, "b": 2, "c": 3}), ("TooMany", {"most": 20000}))

    def test_sets_of_three_things_at_most(self):
        """[29]: where entries are listed; ahead of TooMany, and only for goods that occur."""
        plain = told("a, a~", [PLAIN])
        wide = told(", ".join(["a, a~"] * 10), [((), tuple((2 * k, 2 * k + 1) for k in range(10)))])
        for some in (plain, wide, PICK, told("a, a~", [])):
            for sets in ({"a": 4}, {"a": BIG, "b": 1}):
                self.assertEqual(raised(meaning_of, some, sets), ("BadValue", {"value": sets}))
                self.assertEqual(raised(meaning, Deed(LA), sets), ("BadValue", {"value": sets}))
        self.assertEqual(meaning_of(plain, {"a": 1, "b": BIG}), [(0, 0)])
        self.assertEqual(meaning(Deed(LA), {"a": 1, "b": BIG}), [(0, 0)])

    def test_ascending_and_once(self):
        for some in drawn_wirings(303, 60):
            found = meaning_of(some, {"a": 2, "b": 2})
            self.assertEqual(found, sorted(set(found)))
            found.append(None)
            self.assertNotIn(None, meaning_of(some, {"a": 2, "b": 2}))


class OfDeeds(unittest.TestCase):
    def test_step_by_step(self):
        chance = random.Random(304)
        for deed in random_deeds(305, 150) + forked_deeds(306, 120)[-60:] + handing_deeds(307, 60):
            sets = {name: chance.randrange(1, 4) for end in deed.ends for name in names_in(end)}
            whole = wirings_of(deed)
            if entry_count(whole, sets) <= 3000:
                found = meaning(deed, sets)
                self.assertIsInstance(found, list)
                self.assertEqual(found, sorted(set(steps_meaning(deed.steps, sets))))
                self.assertEqual(found, meaning_of(whole, sets))
                self.assertEqual(len(found), entry_count(whole, sets))

    def test_goods_that_no_end_has(self):
        """A good that is only handed on counts one thing; however many it has, the meaning is the same."""
        form = read_form("a + (c & b)")
        first = ("choose", LA, 0, 0, form[2])
        other = ("choose", ("choose", LB, 0, 1, A), 0, 1, anti("c"))
        last = ("offer", ("choose", LA, 0, 0, B), other, 0, 1)
        deed = Deed(("hand", ("hand", first, plain_deed(form).steps, 1, 1), last, 1, 1))
        self.assertEqual(ends_text(deed.ends), "a~, a + b")
        self.assertIn(link("c"), all_steps(deed.steps))
        for more in [{}, {"c": 5}, {"c": 0}, {"c": "x"}]:
            self.assertEqual(meaning(deed, {"a": 2, "b": 1, **more}), [(0, (0, 0)), (1, (0, 1))])
        for things in (1, 2, 3):
            self.assertEqual(sorted(set(steps_meaning(deed.steps, {"a": 2, "b": 2, "c": things}))), meaning(deed, {"a": 2, "b": 2}))

    def test_too_many(self):
        steps = plain_deed(A).steps
        for _ in range(8):
            steps = ("both", steps, LA, 0, 0)
        self.assertEqual(len(meaning(Deed(steps), {"a": 3})), 3 ** 9)
        self.assertEqual(raised(meaning, Deed(("both", steps, LA, 0, 0)), {"a": 3}), ("TooMany", {"most": 20000}))
        steps = ("turn", OFFER, (1, 0))
        for k in range(10):
            steps = ("both", steps, OFFER, k + 1, 0)
        many = Deed(steps)
        self.assertEqual(raised(wirings_of, many), ("TooMany", {"most": 2000}))
        self.assertEqual(raised(meaning, many, {"a": 1}), ("TooMany", {"most": 2000}))
        self.assertEqual(raised(meaning, many, {"a": 4}), ("BadValue", {"value": {"a": 4}}))
        self.assertEqual(raised(meaning, many, {}), ("BadValue", {"value": {}}))

    def test_alike_exactly_if_the_meanings_are_the_same(self):
        """[34]: over two things for each good; with one thing exactly if the choices are the same."""
        deeds = random_deeds(308, 300)
        pairs = [(one, other) for one, other in itertools.combinations(deeds, 2) if one.ends == other.ends]
        self.assertGreater(len(pairs), 100)
        answers = set()
        for one, other in random.Random(309).sample(pairs, min(len(pairs), 250)):
            same = [meaning(one, ends_sets(one.ends, many)) == meaning(other, ends_sets(one.ends, many)) for many in (1, 2, 3)]
            answers.add(alike(one, other))
            self.assertEqual(same[1:], [alike(one, other)] * 2)
            choices = [[choice for choice, _ in wirings_of(deed).wirings] for deed in (one, other)]
            self.assertIs(same[0], choices[0] == choices[1])
        self.assertEqual(answers, {True, False})

    def test_the_told_deed_has_the_meaning(self):
        for deed in forked_deeds(310, 100)[-40:]:
            sets = ends_sets(deed.ends, 2)
            self.assertEqual(meaning(deed_of(wirings_of(deed)), sets), meaning(deed, sets))


def mapped(value, form, maps):
    """The entry of a form, with each thing sent where the map of its good sends it."""
    if len(form) == 2:
        return maps[form[1]][value]
    if form[0] in ("offered", "chosen"):
        return (value[0], mapped(value[1], form[1 + value[0]], maps))
    return (mapped(value[0], form[1], maps), mapped(value[1], form[2], maps))


class Maps(unittest.TestCase):
    def test_maps_of_things(self):
        chance = random.Random(311)
        onto = 0
        for some in drawn_wirings(312, 150) + [wirings_of(deed) for deed in random_deeds(313, 60)]:
            names = sorted({name for end in some.ends for name in names_in(end)})
            first = {name: chance.randrange(1, 4) for name in names}
            second = {name: chance.randrange(1, 4) for name in names}
            maps = {name: [chance.randrange(second[name]) for _ in range(first[name])] for name in names}
            sent = {tuple(mapped(x, end, maps) for x, end in zip(entry, some.ends)) for entry in meaning_of(some, first)}
            whole = set(meaning_of(some, second))
            self.assertLessEqual(sent, whole)
            if all(set(maps[name]) == set(range(second[name])) for name in names):
                self.assertEqual(sent, whole)
                onto += 1
        self.assertGreater(onto, 20)


class Fits(unittest.TestCase):
    def test_drawn(self):
        chance = random.Random(314)
        several = 0
        for some in drawn_wirings(315, 250):
            for entry in chance.sample(meaning_of(some, {"a": 2, "b": 2}), 1) + [
                    tuple(drawn_entry(chance, end) for end in some.ends) for _ in range(3)]:
                found = fits(some, entry)
                self.assertIsInstance(found, tuple)
                self.assertEqual(found, slow_fits(some, entry))
                several += len(found) > 1
        self.assertGreater(several, 5)

    def test_any_whole_numbers(self):
        some = told("a, a~ | a~, a", [((), ((0, 1), (2, 3))), ((), ((0, 2), (1, 3)))])
        self.assertEqual(fits(some, (BIG, (BIG, 7), 7)), (some.wirings[0],))
        self.assertEqual(fits(some, (7, (BIG, 7), BIG)), (some.wirings[1],))
        self.assertEqual(fits(some, (BIG, (BIG, BIG), BIG)), some.wirings)
        self.assertEqual(fits(some, (BIG, (BIG, BIG), 0)), ())
        self.assertEqual(fits(PICK, ((0, 3), 3)), (PICK.wirings[0],))


def drawn_entry(chance, form):
    if len(form) == 2:
        return chance.choice([0, 0, 1, BIG])
    if form[0] in ("offered", "chosen"):
        side = chance.randrange(2)
        return (side, drawn_entry(chance, form[1 + side]))
    return (drawn_entry(chance, form[1]), drawn_entry(chance, form[2]))


class Count(unittest.TestCase):
    def test_very_great_numbers(self):
        self.assertEqual(entry_count(PICK, {"a": BIG}), 2 * BIG)
        shifts = Wirings(read_ends("a, a, a, a~, a~, a~"), SHIFTS)
        self.assertEqual(entry_count(shifts, {"a": BIG}), 3 * BIG ** 3 - 2 * BIG)
        some = told("a * b, a~ | b~, b & a, a~ + b~", [
            (((0, 0), (1, 1)), ((0, 2), (1, 3), (4, 7))), (((0, 1), (1, 0)), ((0, 2), (1, 3), (5, 6)))])
        self.assertEqual(entry_count(some, {"a": BIG, "b": 7}), BIG * 49 + BIG ** 2 * 7)
        wide = told(", ".join(["a", "a~"] * 20), [((), tuple((2 * k, 2 * k + 1) for k in range(20)))])
        self.assertEqual(entry_count(wide, {"a": BIG}), BIG ** 20)

    def test_twelve_and_thirteen_of_one_choice(self):
        chance = random.Random(316)
        ends = read_ends("a, a, a, a, a~, a~, a~, a~")
        every = every_wiring(ends)
        self.assertEqual(len(every), 24)
        for many in (11, 12):
            rows = chance.sample(every, many)
            some = Wirings(ends, rows)
            for things in (1, 2, 3, 7, BIG):
                self.assertEqual(entry_count(some, {"a": things}), slow_count(rows, things))
            for things in (1, 2):
                self.assertEqual(entry_count(some, {"a": things}), len(slow_meaning(some, {"a": things})))
        for many in (13, 16, 24):
            some = Wirings(ends, chance.sample(every, many))
            for things in (1, BIG):
                self.assertEqual(raised(entry_count, some, {"a": things}), ("TooMany", {"most": 12}))

    def test_twelve_of_each_choice(self):
        """Of several choices each one may have twelve."""
        ends = read_ends("a & a, a, a, a, a~, a~, a~, a~")
        every = every_wiring(ends)
        rows = [[row for row in every if row[0] == ((0, side),)][:12] for side in (0, 1)]
        some = Wirings(ends, rows[0] + rows[1])
        self.assertEqual(entry_count(some, {"a": 3}), sum(slow_count(side, 3) for side in rows))
        more = [row for row in every if row[0] == ((0, 1),)][12:13]
        self.assertEqual(raised(entry_count, Wirings(ends, rows[0] + rows[1] + more), {"a": 3}), ("TooMany", {"most": 12}))

    def test_many_wirings(self):
        steps = ("turn", OFFER, (1, 0))
        for k in range(9):
            steps = ("both", steps, OFFER, k + 1, 0)
        whole = wirings_of(Deed(steps))
        self.assertEqual(len(whole.wirings), 1024)
        self.assertEqual(entry_count(whole, {"a": BIG}), 1024 * BIG ** 10)


def slow_joined(one, other, i, j):
    """What [33] tells of a hand on."""
    return sorted({x[:i] + x[i + 1:] + y[:j] + y[j + 1:] for x in one for y in other if x[i] == y[j]})


class Joined(unittest.TestCase):
    def test_hand_ons_of_deeds(self):
        many = 0
        for deed in handing_deeds(317, 250):
            if deed.steps[0] == "hand":
                one, other, (i, j) = Deed(deed.steps[1]), Deed(deed.steps[2]), deed.steps[3:]
                sets = ends_sets(one.ends + other.ends, 2)
                ones, others = meaning(one, sets), meaning(other, sets)
                if len(ones) * len(others) < 40000:
                    many += 1
                    found = joined_meaning(ones, others, i, j)
                    self.assertIsInstance(found, list)
                    self.assertEqual(found, slow_joined(ones, others, i, j))
                    self.assertEqual(found, meaning(deed, sets))
        self.assertGreater(many, 80)

    def test_any_entries(self):
        chance = random.Random(318)
        for _ in range(200):
            ends = [small_ends(chance, 6, 4, "a") for _ in range(2)]
            rows = [[tuple(drawn_entry(chance, end) for end in some) for _ in range(chance.randrange(1, 12))] for some in ends]
            if len(ends[0]) + len(ends[1]) > 2:
                i, j = chance.randrange(len(ends[0])), chance.randrange(len(ends[1]))
                self.assertEqual(joined_meaning(rows[0], rows[1], i, j), slow_joined(rows[0], rows[1], i, j))

    def test_told(self):
        self.assertEqual(joined_meaning([(0, 0), (1, 1), (0, 1)], [(1, 7), (2, 8)], 1, 0), [(0, 7), (1, 7)])
        self.assertEqual(joined_meaning([(5,)], [(5, 3), (5, 3), (4, 2)], 0, 0), [(3,)])
        self.assertEqual(joined_meaning([(5, 1), (5, 1)], [(5,)], 0, 0), [(1,)])
        self.assertEqual(joined_meaning([(1, 2)], [(3, 4)], 0, 0), [])
        self.assertEqual(joined_meaning((((0, 1), 2),), (((0, 1), (1, 0)),), 0, 0), [(2, (1, 0))])
        self.assertEqual(joined_meaning([(2, 0), (1, 0)], [(0, 9), (0, 8)], 1, 0), [(1, 8), (1, 9), (2, 8), (2, 9)])

    def test_deep_items(self):
        """Items of 12 pairs, one in the other, at the ends that are handed on and at others."""
        deep = BIG
        for _ in range(12):
            deep = (deep, 0)
        self.assertEqual(joined_meaning([(deep, 1)], [(deep, deep)], 0, 0), [(1, deep)])
        self.assertEqual(joined_meaning([(deep, 1)], [(0, deep)], 0, 0), [])
        for wrong in [[((deep, 0), 1)], [(0, (0, deep))]]:
            self.assertEqual(raised(joined_meaning, wrong, [(0, 0)], 0, 0), ("BadValue", {"value": wrong}))
            self.assertEqual(raised(joined_meaning, [(0, 0)], wrong, 0, 0), ("BadValue", {"value": wrong}))

    def test_arguments_stay(self):
        one, other = [(0, 1)], [(1, 2)]
        joined_meaning(one, other, 1, 0).append(None)
        self.assertEqual((one, other, joined_meaning(one, other, 1, 0)), ([(0, 1)], [(1, 2)], [(0, 2)]))


class WrongArguments(unittest.TestCase):
    def test_no_wirings(self):
        for value in [None, 5, [PLAIN], ((A, anti("a")), (PLAIN,)), Deed(LA), "a, a~", ()]:
            for call, rest in [(meaning_of, ({"a": 1},)), (meaning_of, (None,)), (entry_count, ({"a": 1},)), (entry_count, (None,)),
                               (fits, ((0, 0),)), (fits, (None,))]:
                kind, fields = raised(call, value, *rest)
                self.assertEqual(kind, "BadValue")
                self.assertIs(fields["value"], value)

    def test_no_deed(self):
        for value in [None, 5, LA, wirings_of(Deed(LA)), "link a", ()]:
            for sets in ({"a": 1}, None):
                kind, fields = raised(meaning, value, sets)
                self.assertEqual(kind, "BadValue")
                self.assertIs(fields["value"], value)

    def test_no_sets(self):
        deed = Deed(PAIR)
        for sets in [None, 5, [("a", 1), ("b", 1)], {}, {"a": 1}, {"a": 1, "b": 0}, {"a": -1, "b": 1}, {"a": 1, "b": True},
                     {"a": 1.0, "b": 1}, {"a": None, "b": 1}, {"b": 1, "c": 1}, "ab"]:
            for call, some in [(meaning_of, wirings_of(deed)), (entry_count, wirings_of(deed)), (meaning, deed)]:
                kind, fields = raised(call, some, sets)
                self.assertEqual(kind, "BadValue")
                self.assertIs(fields["value"], sets)

    def test_no_entry(self):
        for entry in [None, 5, (), ((0, 0),), ((0, 0), 0, 0), [(0, 0), 0], ([0, 0], 0), ((0, 0), -1), ((0, 0), True), ((0, 0), (0,)),
                      ((1, (0, 0)), 0), ((2, 0), 0), ((True, 0), 0), ((0, 0), None), "00", (0, 0)]:
            kind, fields = raised(fits, PICK, entry)
            self.assertEqual(kind, "BadValue")
            self.assertIs(fields["value"], entry)

    def test_no_lists_of_entries(self):
        right = [(0, 0)]
        for wrong in [None, 5, [], (), "ab", {(0, 0): 1}, [()], [(0, 0), ()], [(0, 0), (0,)], [[0, 0]], [(0, 0), [0, 0]], [(0, -1)],
                      [(0, True)], [(0, None)], [(0, (0,))], [(0, (0, 0, 0))], [(0, [0, 0])], [(0, (0, (0, "0")))], [(0, 0.0)], [0, 0],
                      [(0, ())], [None], [(0, (0, -1))], [((0, True), 0)]]:
            for arguments in [(wrong, right, 0, 0), (right, wrong, 0, 0), (wrong, None, 9, 9), (right, wrong, None, 9)]:
                kind, fields = raised(joined_meaning, *arguments)
                self.assertEqual(kind, "BadValue")
                self.assertIs(fields["value"], wrong)

    def test_no_ends(self):
        right = [(0, 0)]
        for wrong in [2, -1, True, False, None, "0", 0.0, (0,), 10 ** 20]:
            for arguments in [(right, right, wrong, 0), (right, right, 0, wrong), (right, right, wrong, 9)]:
                kind, fields = raised(joined_meaning, *arguments)
                self.assertEqual(kind, "BadValue")
                self.assertIs(fields["value"], wrong)
        self.assertEqual(raised(joined_meaning, [(0,)], [(0,)], 0, 0), ("BadValue", {"value": 0}))
        self.assertEqual(raised(joined_meaning, [(0,), (1,)], [(2,)], 0, 0), ("BadValue", {"value": 0}))
        self.assertEqual(raised(joined_meaning, [(0,)], [(0,)], 1, 0), ("BadValue", {"value": 1}))

    def test_by_name(self):
        self.assertEqual(meaning_of(wirings=PICK, sets={"a": 1}), [((0, 0), 0), ((1, 0), 0)])
        self.assertEqual(meaning(sets={"a": 1}, deed=Deed(LA)), [(0, 0)])
        self.assertEqual(fits(entry=((0, 0), 0), wirings=PICK), (PICK.wirings[0],))
        self.assertEqual(entry_count(sets={"a": 5}, wirings=PICK), 10)
        self.assertEqual(joined_meaning(one=[(0, 0)], other=[(0, 1)], i=1, j=0), [(0, 1)])


if __name__ == "__main__":
    unittest.main()
