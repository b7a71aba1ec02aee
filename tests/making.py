"""What several tests need: deeds to test with, and plain slow ways to tell what the document says.

Little here uses the program: the class Deed, by which right steps are known, the
class Wirings, plain deeds, and texts of forms.
"""
import itertools
import random

from alldeeds.deeds import Deed, plain_deed
from alldeeds.errors import DeedError, NotAText
from alldeeds.formtexts import read_ends, read_form
from alldeeds.wirings import Wirings

COUNTERS = {"good": "counter", "both": "between", "offered": "chosen"}
COUNTERS.update({COUNTERS[word]: word for word in list(COUNTERS)})
FORKS = ("offered", "chosen")


def good(name):
    return ("good", name)


def anti(name):
    return ("counter", name)


def link(name):
    return ("link", name)


def nested(form, times, word="both"):
    """The form, so many times the left half of a form with the word, beside a good."""
    for _ in range(times):
        form = (word, form, ("good", "z"))
    return form


def bushy(depth, word="both", leaf=("good", "a")):
    """The form of this depth in which both halves are always the same."""
    for _ in range(depth):
        leaf = (word, leaf, leaf)
    return leaf


def counter_of(form):
    if len(form) == 2:
        return (COUNTERS[form[0]], form[1])
    return (COUNTERS[form[0]], counter_of(form[1]), counter_of(form[2]))


def names_in(form):
    if len(form) == 2:
        return {form[1]}
    return names_in(form[1]) | names_in(form[2])


def raised(call, *told, **named):
    """The class of the error that the call raises and its fields; fails if it raises none."""
    try:
        result = call(*told, **named)
    except DeedError as error:
        return (type(error).__name__, vars(error))
    raise AssertionError(f"nothing was raised, but {str(result)[:200]} returned")


def form_entries(form, sets):
    """All entries of a form over sets."""
    if len(form) == 2:
        return list(range(sets.get(form[1], 1)))
    left, right = form_entries(form[1], sets), form_entries(form[2], sets)
    if form[0] in FORKS:
        return [(0, x) for x in left] + [(1, y) for y in right]
    return [(x, y) for x in left for y in right]


def steps_meaning(steps, sets):
    """The list of the entries of a deed, made step by step, and its ends."""
    word = steps[0]
    if word == "link":
        return [(t, t) for t in range(sets.get(steps[1], 1))]
    one = steps_meaning(steps[1], sets)
    if word == "turn":
        return [tuple(x[k] for k in steps[2]) for x in one]
    if word == "between":
        i, j = steps[2:]
        return [tuple(t for k, t in enumerate(x) if k not in (i, j)) + ((x[i], x[j]),) for x in one]
    if word == "choose":
        i, side = steps[2:4]
        return [x[:i] + x[i + 1:] + ((side, x[i]),) for x in one]
    other = steps_meaning(steps[2], sets)
    i, j = steps[3:]
    if word == "offer":
        first = [x[:i] + x[i + 1:] + ((0, x[i]),) for x in one]
        return first + [y[:j] + y[j + 1:] + ((1, y[j]),) for y in other]
    if word == "both":
        return [x[:i] + x[i + 1:] + y[:j] + y[j + 1:] + ((x[i], y[j]),) for x in one for y in other]
    return [x[:i] + x[i + 1:] + y[:j] + y[j + 1:] for x in one for y in other if x[i] == y[j]]


def deed_meaning(deed):
    """The set of the entries of a deed over two things for each good of its ends."""
    sets = {name: 2 for end in deed.ends for name in names_in(end)}
    return set(steps_meaning(deed.steps, sets))


def walked(ends):
    """The leaves and the forks of the ends, both with the forks above them."""
    leaves, forks = [], []

    def walk(form, above):
        if len(form) == 2:
            leaves.append((form, above))
            return
        over = [above, above]
        if form[0] in FORKS:
            over = [above + ((len(forks), side),) for side in (0, 1)]
            forks.append((form[0], above))
        walk(form[1], over[0])
        walk(form[2], over[1])

    for end in ends:
        walk(end, ())
    return leaves, forks


def leaf_list(ends):
    """The leaves of the ends, each with the forks above it."""
    return walked(ends)[0]


def fork_list(ends):
    """The words of the forks of the ends, each with the forks above it."""
    return walked(ends)[1]


def check_each_place(case, read, text):
    """Reads the text with a sign that never stands anywhere at each place, and each of its beginnings."""
    for at in range(len(text)):
        for sign in "?A\t.":
            case.assertEqual(raised(read, text[:at] + sign + text[at:]), ("NotAText", {"at": at}))
        try:
            read(text[:at])
        except NotAText as error:
            case.assertEqual(error.at, at)
        except DeedError:
            pass


def all_choices(ends):
    """The ascending list of all choices of the ends."""
    forks = fork_list(ends)
    found = set()
    for sides in itertools.product((0, 1), repeat=len(forks)):
        found.add(tuple((k, sides[k]) for k, (_, above) in enumerate(forks) if all(sides[f] == s for f, s in above)))
    return sorted(found)


def met(ends, choice):
    """The numbers of the leaves that a choice meets."""
    return [k for k, (_, above) in enumerate(leaf_list(ends)) if set(above) <= set(choice)]


def all_links(ends, choice):
    """All links that a wiring of the ends with this choice may have."""
    leaves = leaf_list(ends)

    def pairings(numbers):
        if not numbers:
            yield ()
            return
        first = numbers[0]
        for other in numbers[1:]:
            if counter_of(leaves[first][0]) == leaves[other][0]:
                for rest in pairings([k for k in numbers[1:] if k != other]):
                    yield ((first, other),) + rest

    return sorted(pairings(met(ends, choice)))


def every_wiring(ends):
    """The ascending list of all wirings of the ends."""
    return sorted((choice, links) for choice in all_choices(ends) for links in all_links(ends, choice))


def entry_at(form, sides, things, counts):
    """The entry of a form; counts holds how many leaves and forks stand ahead of it."""
    if len(form) == 2:
        counts[0] += 1
        return things.get(counts[0] - 1, 0)
    if form[0] in FORKS:
        number = counts[1]
        counts[1] += 1
        both = [entry_at(form[1], sides, things, counts), entry_at(form[2], sides, things, counts)]
        return (sides[number], both[sides[number]]) if number in sides else None
    left = entry_at(form[1], sides, things, counts)
    return (left, entry_at(form[2], sides, things, counts))


def wiring_entries(ends, wiring, things=2):
    """The list of the entries over so many things that fit a wiring."""
    choice, links = wiring
    found = []
    for told in itertools.product(range(things), repeat=len(links)):
        at = {}
        for thing, (i, j) in zip(told, links):
            at[i] = at[j] = thing
        counts = [0, 0]
        found.append(tuple(entry_at(end, dict(choice), at, counts) for end in ends))
    return found


def wirings_meaning(ends, wirings):
    """The set of the entries over two things that fit one of the wirings."""
    return {entry for wiring in wirings for entry in wiring_entries(ends, wiring)}


def random_form(chance, depth, names="ab"):
    if depth == 0 or chance.random() < 0.3:
        return (chance.choice(("good", "counter")), chance.choice(names))
    word = chance.choice(("both", "between", "offered", "chosen"))
    return (word, random_form(chance, depth - 1, names), random_form(chance, depth - 1, names))


WORDS = ("both", "between", "offer", "choose", "hand", "hand", "turn", "offer", "between")
WITHOUT_HANDS = tuple(word for word in WORDS if word != "hand")


def random_step(chance, pool, names, words):
    """Steps made of deeds of the pool, right or wrong."""
    one, other = chance.choice(pool), chance.choice(pool)
    i, j = chance.randrange(len(one.ends)), chance.randrange(len(other.ends))
    word = chance.choice(words)
    if word == "both":
        return ("both", one.steps, other.steps, i, j)
    if word == "between":
        return ("between", one.steps, i, chance.randrange(len(one.ends)))
    if word == "choose":
        return ("choose", one.steps, i, chance.randrange(2), random_form(chance, 1, names))
    if word == "turn":
        order = list(range(len(one.ends)))
        chance.shuffle(order)
        return ("turn", one.steps, tuple(order))
    fitting = []
    for other in pool:
        for i, end in enumerate(one.ends):
            for j, there in enumerate(other.ends):
                rest = one.ends[:i] + one.ends[i + 1:]
                if word == "hand" and counter_of(end) == there:
                    fitting.append((word, one.steps, other.steps, i, j))
                if word == "offer" and rest == other.ends[:j] + other.ends[j + 1:]:
                    fitting.append((word, one.steps, other.steps, i, j))
    if word == "hand":
        larger = [steps for steps in fitting if len(one.ends[steps[3]]) == 3]
        fitting = larger or fitting
    return chance.choice(fitting) if fitting else ("link", chance.choice(names))


PLAIN_TEXTS = ["a * a", "a & a", "a & a~", "(a & a) & a", "a & (a + a)", "a * (a & a)", "(a & a) | (a + a)", "(a * b) & c"]


def forked_deeds(seed, many, most_steps=40, most_leaves=10):
    """So many deeds, of which many hand on forks, also such within one another."""
    return random_deeds(seed, many, "a", most_steps, most_leaves, [plain_deed(read_form(text)) for text in PLAIN_TEXTS[1:-1]])


def handing_deeds(seed, many, most_steps=60, most_leaves=10):
    """So many deeds that hand on all sorts of ends, made by all sorts of steps, also within one another."""
    chance = random.Random(seed)
    words = ("both", "between", "offer", "offer", "choose", "turn")
    pool = random_deeds(seed, 400, "a", 20, 7, [plain_deed(read_form(text)) for text in PLAIN_TEXTS[:3]], words)
    table = {}
    for deed in pool:
        put_ends(table, deed)
    found = []
    while len(found) < many:
        word = chance.choice(list(COUNTERS))
        one, i = chance.choice(chance.choice([table[form] for form in table if form[0] == word and counter_of(form) in table]))
        other, j = chance.choice(table[counter_of(one.ends[i])])
        steps = ("hand", one.steps, other.steps, i, j)
        if found and chance.random() < 0.3:
            steps = random_step(chance, chance.sample(found, min(len(found), 20)) + chance.sample(pool, 5), "a", words)
        try:
            deed = Deed(steps)
        except DeedError:
            continue
        if deed.size() <= most_steps and len(leaf_list(deed.ends)) <= most_leaves and has_hand(steps):
            found.append(deed)
            if chance.random() < 0.3:
                put_ends(table, deed)
    return found


def put_ends(table, deed):
    """Puts the deed into the table with the number of each of its ends, by their forms."""
    for number, form in enumerate(deed.ends):
        table.setdefault(form, []).append((deed, number))


def random_deeds(seed, many, names="ab", most_steps=24, most_leaves=9, begin=(), words=WORDS):
    """So many deeds with all kinds of steps, not too great to be looked at step by step, made of those to begin with."""
    chance = random.Random(seed)
    pool = [Deed(link(name)) for name in names] + list(begin)
    tried = 0
    while len(pool) < many and tried < 100 * many:
        tried += 1
        steps = random_step(chance, pool, names, words)
        try:
            deed = Deed(steps)
        except DeedError:
            continue
        leaves = sum(len(leaf_list([end])) for end in deed.ends)
        if deed.size() <= most_steps and leaves <= most_leaves and deed not in pool:
            pool.append(deed)
    return pool


def told(text, wirings):
    """The Wirings of the ends of a text."""
    return Wirings(read_ends(text), wirings)


def leaf_places(ends):
    """For each leaf the number of its end."""
    return [k for k, end in enumerate(ends) for _ in leaf_list([end])]


def fork_places(ends):
    """For each fork the number of its end."""
    return [k for k, end in enumerate(ends) for _ in fork_list([end])]


def spread_out(ends, end):
    """The ends with both halves of one in its place, and the numbers of its forks and of the others anew."""
    return ends[:end] + (ends[end][1], ends[end][2]) + ends[end + 1:]


def partings(ends, wirings):
    """For each of the ends a number, the same one for those that the links hang together."""
    at = list(range(len(ends)))
    for _, links in wirings:
        for i, j in links:
            one, other = at[leaf_places(ends)[i]], at[leaf_places(ends)[j]]
            at = [one if group == other else group for group in at]
    return at


def steps_within(steps):
    """The steps directly within a right step."""
    return steps[1:1 + {"link": 0, "both": 2, "offer": 2, "hand": 2}.get(steps[0], 1)]


def all_steps(steps):
    """The list of all steps, in the order of their numbers from 1 on."""
    return [step for one in steps_within(steps) for step in all_steps(one)] + [steps]


def has_hand(steps):
    return any(step[0] == "hand" for step in all_steps(steps))


def inversely(order):
    """The order that takes an order back."""
    return tuple(order.index(k) for k in range(len(order)))


def node_numbers(ends):
    """The numbers of the leaves and of the forks of the ends by their nodes."""
    leaves, forks = {}, {}

    def walk(form, node):
        if len(form) == 2:
            leaves[node] = len(leaves)
            return
        if form[0] in FORKS:
            forks[node] = len(forks)
        walk(form[1], node + (0,))
        walk(form[2], node + (1,))

    for at, end in enumerate(ends):
        walk(end, (at,))
    return leaves, forks


def deed_sets(ends):
    """All sets of wirings of deeds of the ends, as ascending tuples: each last step that a deed may have is tried.

    Turns and hand ons need not be tried: without them there are deeds of all the same sets.
    """
    leaves, forks = node_numbers(ends)
    known = {}

    def form_at(node):
        form = ends[node[0]]
        for side in node[1:]:
            form = form[1 + side]
        return form

    def with_pair(found, pair):
        return {frozenset((choice | {pair}, links) for choice, links in rows) for rows in found}

    def pairs(ones, others):
        return {frozenset((c | d, k | m) for c, k in one for d, m in other) for one in ones for other in others}

    def found_at(node, rest):
        word = form_at(node)[0]
        left, right = node + (0,), node + (1,)
        if word == "between":
            return sets(rest | {left, right})
        if word in FORKS:
            fork = forks[node]
            sides = [with_pair(sets(rest | {half}), (fork, side)) for side, half in enumerate((left, right))]
            if word == "chosen":
                return sides[0] | sides[1]
            return {one | other for one in sides[0] for other in sides[1]}
        found = set()
        if word == "both":
            for many in range(len(rest) + 1):
                for some in itertools.combinations(sorted(rest), many):
                    found |= pairs(sets(frozenset(some) | {left}), sets(rest - set(some) | {right}))
        return found

    def sets(nodes):
        if nodes not in known:
            found = set()
            if len(nodes) == 2:
                one, other = nodes
                if one in leaves and other in leaves and form_at(one) == counter_of(form_at(other)):
                    pair = tuple(sorted((leaves[one], leaves[other])))
                    found.add(frozenset([(frozenset(), frozenset([pair]))]))
            for node in nodes:
                found |= found_at(node, nodes - {node})
            known[nodes] = found
        return known[nodes]

    whole = sets(frozenset((at,) for at in range(len(ends))))
    return {tuple(sorted((tuple(sorted(c)), tuple(sorted(k))) for c, k in rows)) for rows in whole}


def small_ends(chance, most_leaves, most_forks, names="a", depth=2):
    """Some ends that are drawn, not too great."""
    while True:
        ends = tuple(random_form(chance, depth, names) for _ in range(chance.randrange(1, 4)))
        if len(leaf_list(ends)) <= most_leaves and len(fork_list(ends)) <= most_forks:
            return ends


def put_together(steps, many):
    """The first ends, so many, put into one by betweens."""
    steps = ("between", steps, 0, 1)
    for _ in range(many - 2):
        steps = ("between", steps, len(Deed(steps).ends) - 1, 0)
    return steps


def passed_on(many):
    """The plain deed of so many goods, each of which is offered and chosen within; there are 2 ** many wirings on the way."""
    offer = ("offer", link("a"), link("a"), 0, 0)
    choose = ("choose", link("a"), 1, 0, anti("a"))
    offers, chosen = offer, ("turn", choose, (1, 0))
    for k in range(1, many):
        offers = ("both", offers, offer, k, 1)
        chosen = ("both", chosen, choose, k, 0)
    hand = ("hand", offers, put_together(chosen, many), many, 1)
    return Deed(put_together(hand, many))
