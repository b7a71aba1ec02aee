"""[18], [87]: askings of ends, and the wirings that answer them."""
import itertools
import random
import unittest

from alldeeds.askings import answering, askings_of, first_unanswered
from alldeeds.back import comes_of_deed
from alldeeds.deeds import Deed
from alldeeds.ends import forks
from alldeeds.formtexts import read_ends
from alldeeds.wired import wirings_of
from alldeeds.wirings import Wirings
from making import anti, every_wiring, fork_list, good, link, raised, random_deeds, small_ends, told

A, B = good("a"), good("b")
LA = link("a")
PLAIN = ((), ((0, 1),))
PICK = told("a & a, a~", [(((0, 0),), ((0, 2),)), (((0, 1),), ((1, 2),))])
OFFER = ("offered", A, A)


def offered(ends):
    """The numbers of the offered forms."""
    return [number for number, (word, _) in enumerate(fork_list(ends)) if word == "offered"]


def slow_askings(ends):
    return tuple(itertools.product((0, 1), repeat=len(offered(ends))))


def slow_answering(wirings, asking):
    """The numbers of the wirings that take the asked side at each offered form that they meet."""
    asked = set(zip(offered(wirings.ends), asking))
    found = []
    for number, (choice, _) in enumerate(wirings.wirings):
        taken = {pair for pair in choice if pair[0] in offered(wirings.ends)}
        if taken <= asked:
            found.append(number)
    return tuple(found)


def slow_unanswered(wirings):
    for asking in slow_askings(wirings.ends):
        numbers = slow_answering(wirings, asking)
        if len(numbers) != 1:
            return (asking, numbers)
    return None


class Askings(unittest.TestCase):
    def test_told(self):
        for text, found in [("a, a~", ((),)), ("a + a, a~", ((),)), ("a & a", ((0,), (1,))),
                            ("a & (b & c)", ((0, 0), (0, 1), (1, 0), (1, 1))),
                            ("a & b, c + (a & b)", ((0, 0), (0, 1), (1, 0), (1, 1)))]:
            self.assertEqual(askings_of(read_ends(text)), found)
            self.assertEqual(askings_of(ends=tuple(read_ends(text))), found)
            self.assertIsInstance(askings_of(read_ends(text)), tuple)

    def test_drawn(self):
        chance = random.Random(231)
        for _ in range(200):
            ends = small_ends(chance, 12, 9, "ab", 3)
            self.assertEqual(askings_of(ends), slow_askings(ends))
            self.assertEqual(len(askings_of(ends)), 2 ** forks(ends).count("offered"))

    def test_ten_and_more(self):
        for many in (9, 10):
            found = askings_of([OFFER] * many)
            self.assertEqual((len(found), found[0], found[-1]), (2 ** many, (0,) * many, (1,) * many))
            self.assertEqual(list(found), sorted(set(found)))
        for ends in ([OFFER] * 11, [OFFER] * 20, [("both", OFFER, OFFER)] * 5 + [("chosen", OFFER, B)]):
            self.assertEqual(raised(askings_of, ends), ("TooMany", {"most": 10}))
            self.assertEqual(raised(first_unanswered, Wirings(ends, [])), ("TooMany", {"most": 10}))
        self.assertEqual(len(askings_of([("chosen", A, A)] * 15)), 1)

    def test_wrong_ends(self):
        for ends in [None, [], (), "a", A, [A, None], [A] * 41, {0: A}, [["good", "a"]], 5, True]:
            kind, fields = raised(askings_of, ends)
            self.assertEqual(kind, "BadValue")
            self.assertIs(fields["value"], ends)


class Answering(unittest.TestCase):
    def check(self, wirings):
        for asking in slow_askings(wirings.ends):
            found = answering(wirings, asking)
            self.assertIsInstance(found, tuple)
            self.assertEqual(found, slow_answering(wirings, asking))
        self.assertEqual(first_unanswered(wirings), slow_unanswered(wirings))

    def test_exactly_one_wiring_of_a_deed_answers(self):
        for deed in random_deeds(232, 300):
            whole = wirings_of(deed)
            self.check(whole)
            self.assertIsNone(first_unanswered(whole))
            for asking in askings_of(deed.ends):
                self.assertEqual(len(answering(whole, asking)), 1)

    def test_drawn_wirings(self):
        chance = random.Random(233)
        unanswered = []
        while len(unanswered) < 250:
            ends = small_ends(chance, 7, 4)
            every = every_wiring(ends)
            if len(every) < 200:
                some = Wirings(ends, chance.sample(every, min(len(every), chance.randrange(0, 7))))
                self.check(some)
                unanswered.append(first_unanswered(some))
        self.assertGreater(len({found[0] for found in unanswered if found}), 3)
        self.assertTrue({len(found[1]) for found in unanswered if found} >= {0, 2, 3})

    def test_told(self):
        self.assertEqual([answering(PICK, (side,)) for side in (0, 1)], [(0,), (1,)])
        within = told("a & (a & a), a~", [(((0, 0),), ((0, 3),)), (((0, 1), (1, 1)), ((2, 3),))])
        self.assertEqual([answering(within, asking) for asking in slow_askings(within.ends)], [(0,), (0,), (), (1,)])
        self.assertEqual(first_unanswered(within), ((1, 0), ()))
        chosen = told("a + a, a~", [(((0, 0),), ((0, 2),)), (((0, 1),), ((1, 2),))])
        self.assertEqual((answering(chosen, ()), first_unanswered(chosen)), ((0, 1), ((), (0, 1))))
        self.assertEqual(first_unanswered(told("a, a~", [])), ((), ()))
        self.assertEqual(first_unanswered(told("a & a, a~", [])), ((0,), ()))

    def test_several_of_one_choice(self):
        two = told("a, a, a~, a~", [((), ((0, 2), (1, 3))), ((), ((0, 3), (1, 2)))])
        self.assertEqual((answering(two, ()), first_unanswered(two)), ((0, 1), ((), (0, 1))))

    def test_answered_need_not_come_of_a_deed(self):
        crosswise = told("(a & a) * (b & b), a~ + a~, b~ + b~", [
            (((0, i), (1, j), (2, j), (3, i)), ((i, 4 + j), (2 + j, 6 + i))) for i in (0, 1) for j in (0, 1)])
        self.assertIsNone(first_unanswered(crosswise))
        self.assertFalse(comes_of_deed(crosswise))

    def test_more_than_ten_are_answered_too(self):
        """Only the functions that go over all askings are bounded."""
        ends = [OFFER] * 12 + [anti("a")] * 12
        choice = tuple((fork, 0) for fork in range(12))
        some = Wirings(ends, [(choice, tuple((2 * k, 24 + k) for k in range(12)))])
        self.assertEqual(answering(some, (0,) * 12), (0,))
        self.assertEqual(answering(some, (0,) * 11 + (1,)), ())
        self.assertEqual(raised(first_unanswered, some), ("TooMany", {"most": 10}))

    def test_many_offers_and_few_wirings(self):
        """Ten offers of which the last ones are not answered."""
        ends = [OFFER] * 10 + [anti("a")] * 10
        rows = [(tuple((fork, side) for fork, side in enumerate(sides)), tuple((2 * k + side, 20 + k) for k, side in enumerate(sides)))
                for sides in itertools.product((0, 1), repeat=10)]
        self.assertIsNone(first_unanswered(Wirings(ends, rows)))
        self.assertEqual(first_unanswered(Wirings(ends, rows[:-1])), ((1,) * 10, ()))


class WrongArguments(unittest.TestCase):
    def test_no_asking(self):
        other = told("a & a, a & a, a~, a~", [])
        for some, wrong in [(PICK, [(), (0, 0), (2,), (-1,), (True,), (False,), [0], ["0"], (None,), None, 0, "0", ((0,),), (0.0,),
                                    [], {0: 0}, (0, 1, 0)]),
                            (other, [(0,), (0, 1, 1), [0, 1], (0, True), (False, 0), (0, 2)]),
                            (told("a, a~", [PLAIN]), [(0,), [], None, 0, "", ((),)])]:
            for asking in wrong:
                kind, fields = raised(answering, some, asking)
                self.assertEqual(kind, "BadValue")
                self.assertIs(fields["value"], asking)

    def test_no_wirings(self):
        for value in [None, 5, [PLAIN], ((A, anti("a")), (PLAIN,)), Deed(LA), "a, a~", ()]:
            for call, rest in [(answering, ((),)), (answering, (None,)), (first_unanswered, ())]:
                kind, fields = raised(call, value, *rest)
                self.assertEqual(kind, "BadValue")
                self.assertIs(fields["value"], value)

    def test_by_name(self):
        self.assertEqual(answering(wirings=PICK, asking=(1,)), (1,))
        self.assertEqual(answering(asking=(0,), wirings=PICK), (0,))
        self.assertIsNone(first_unanswered(wirings=PICK))


if __name__ == "__main__":
    unittest.main()
