"""[11], [13], [14], [18], [20], [21], [26], [27], [28], [33], [34], [43]: one deed in many ways.

Its text, its wirings, its runs, its reducing, its meaning, what is told back of its
meaning, the deed that is told of its wirings, the search of its ends and its
rejoined middles all speak of the same wirings.
"""
import random
import unittest

from alldeeds.askings import answering, askings_of, first_unanswered
from alldeeds.back import comes_of_deed, deed_of
from alldeeds.cuts import first_unsound
from alldeeds.deeds import Deed, plain_deed, replaced, step_of
from alldeeds.deedtexts import deed_text, read_deed
from alldeeds.formtexts import read_form
from alldeeds.handing import handed
from alldeeds.likeness import alike
from alldeeds.meanings import entry_count, fits, joined_meaning, meaning, meaning_of
from alldeeds.midway import crossing_goods, midway, rejoined
from alldeeds.orders import count_orders
from alldeeds.reducing import without_hands
from alldeeds.rows import joined_row, midways
from alldeeds.runs import answer, walk
from alldeeds.search import all_wirings, least_choices, most_choices
from alldeeds.toldback import is_single, told_back
from alldeeds.wired import wirings_of
from alldeeds.wirelines import read_wirings, wirings_text
from making import forked_deeds, handing_deeds, has_hand, leaf_list, names_in, random_deeds


class Checks(unittest.TestCase):
    def check(self, deed, chance):
        whole = wirings_of(deed)
        self.check_texts(deed, whole)
        self.check_runs(deed, whole)
        self.check_told(deed, whole)
        self.check_meaning(deed, whole)
        bare, many = without_hands(deed)
        self.assertIs(many > 0, has_hand(deed.steps))
        self.assertEqual((wirings_of(bare), bare.ends), (whole, deed.ends))
        self.check_runs(bare, whole)
        if len(deed.ends) > 1:
            self.check_middles(bare, whole, chance)

    def check_texts(self, deed, whole):
        self.assertEqual(wirings_of(read_deed(deed_text(deed))), whole)
        self.assertEqual(read_wirings(wirings_text(whole)), whole)

    def check_runs(self, deed, whole):
        """The runs for all askings, and the walks of each one, tell all wirings."""
        self.assertIsNone(first_unanswered(whole))
        found = set()
        for asking in askings_of(deed.ends)[:16]:
            told = answer(deed, asking).wiring
            self.assertEqual(told, whole.wirings[answering(whole, asking)[0]])
            pairs = {tuple(sorted((leaf, walk(deed, asking, leaf).leaf))) for link in told[1] for leaf in link}
            self.assertEqual(tuple(sorted(pairs)), told[1])
            found.add(told)
        if len(askings_of(deed.ends)) <= 16:
            self.assertEqual(found, set(whole.wirings))

    def check_told(self, deed, whole):
        self.assertTrue(comes_of_deed(whole))
        self.assertTrue(alike(deed_of(whole), deed))
        self.assertIsNone(first_unsound(whole))
        self.assertTrue(is_single(whole))
        if len(leaf_list(deed.ends)) <= 8:
            self.assertGreater(count_orders(whole), 0)
        if len(leaf_list(deed.ends)) <= 6:
            self.assertIn(whole.wirings, [one.wirings for one in all_wirings(deed.ends)])
            self.assertTrue(least_choices(deed.ends) <= len(whole.wirings) <= most_choices(deed.ends))

    def check_meaning(self, deed, whole):
        sets = {name: 2 for end in deed.ends for name in names_in(end)}
        entries = meaning(deed, sets)
        self.assertEqual(entries, meaning_of(whole, sets))
        self.assertEqual(len(entries), entry_count(whole, sets))
        self.assertEqual(told_back(deed.ends, entries[::-1]), whole)
        for entry in entries[:5]:
            self.assertEqual(len(fits(whole, entry)), 1)

    def check_middles(self, deed, whole, chance):
        many = len(deed.ends)
        left = tuple(sorted(chance.sample(range(many), chance.randrange(1, many))))
        self.assertEqual(wirings_of(rejoined(deed, left)), whole)
        again, times = without_hands(rejoined(deed, left))
        self.assertEqual(wirings_of(again), whole)
        self.assertGreater(times, 0)
        half = midway(deed, left)
        one, other = wirings_of(half.one), wirings_of(half.other)
        joined = handed(one, other, len(left), 0)
        self.assertEqual(joined.wirings, wirings_of(joined_row(midways(deed, (left, rest_of(many, left)))[1])).wirings)
        sets = {name: 2 for end in deed.ends for name in names_in(end)}
        if entry_count(one, sets) < 2000 and entry_count(other, sets) < 2000:
            entries = joined_meaning(meaning(half.one, sets), meaning(half.other, sets), len(left), 0)
            self.assertEqual(entries, meaning_of(joined, sets))
        self.assertLessEqual(set(crossing_goods(deed, left)), {name for end in deed.ends for name in names_in(end)})


def rest_of(many, left):
    return tuple(k for k in range(many) if k not in left)


class OneDeed(Checks):
    def test_drawn_deeds(self):
        chance = random.Random(341)
        for deed in random_deeds(342, 200)[-100:] + forked_deeds(343, 200)[-60:] + handing_deeds(344, 60):
            self.check(deed, chance)

    def test_great_deeds(self):
        chance = random.Random(345)
        for text in ["(a & b) * (c + d)", "((a | b) & (a * c)) + d", "(a & a) | (b + (b & c))"]:
            plain = plain_deed(read_form(text))
            steps = plain.steps
            for _ in range(4):
                steps = ("hand", steps, plain.steps, 1, 0)
            self.check(Deed(steps), chance)

    def test_steps_that_are_exchanged(self):
        """A step in whose place an alike one is put leaves the wirings as they are."""
        chance = random.Random(346)
        for deed in handing_deeds(347, 80):
            at = chance.randrange(1, deed.size() + 1)
            step = step_of(deed, at)
            other = replaced(deed, at, deed_of(wirings_of(step)))
            self.assertEqual(wirings_of(other), wirings_of(deed))
            self.assertTrue(alike(without_hands(other)[0], without_hands(deed)[0]))


if __name__ == "__main__":
    unittest.main()
