"""Programs to test with, drawn term by term, and slow ways to tell what they do.

Little here uses the program: the class Deed, by which right steps are known.
"""
import itertools
import random

from alldeeds.deeds import Deed
from alldeeds.errors import DeedError
from making import counter_of, form_entries, leaf_list

WORDS = ("let", "in", "fn", "case", "of", "or", "left", "right", "first", "second")
SLOTS = {
    "name": "n", "pair": "tt", "let": "nntt", "fn": "nkt", "apply": "tt", "left": "tk", "right": "tk", "case": "tntnt",
    "ways": "tt", "first": "t", "second": "t",
}


def random_kind(chance, depth, names="ab"):
    if depth == 0 or chance.random() < 0.4:
        return ("good", chance.choice(names))
    return (chance.choice(("pair", "sum", "offer", "to")), random_kind(chance, depth - 1, names), random_kind(chance, depth - 1, names))


def kind_leaves(kind):
    return 1 if len(kind) == 2 else kind_leaves(kind[1]) + kind_leaves(kind[2])


def kind_depth(kind):
    return 0 if len(kind) == 2 else 1 + max(kind_depth(kind[1]), kind_depth(kind[2]))


def parts_of(term):
    """The parts of a term."""
    return [told for slot, told in zip(SLOTS[term[0]], term[1:]) if slot == "t"]


def with_parts(term, parts):
    """The term with other parts."""
    rest = list(parts)
    return (term[0],) + tuple(rest.pop(0) if slot == "t" else told for slot, told in zip(SLOTS[term[0]], term[1:]))


def all_paths(term):
    """All paths of the term, the term itself ahead of its parts."""
    return [()] + [(k,) + path for k, part in enumerate(parts_of(term)) for path in all_paths(part)]


def term_at(term, path):
    for number in path:
        term = parts_of(term)[number]
    return term


def with_term_at(term, path, other):
    """The term with another one where the path leads."""
    if not path:
        return other
    parts = parts_of(term)
    parts[path[0]] = with_term_at(parts[path[0]], path[1:], other)
    return with_parts(term, parts)


def renamed(term, names):
    """The term in which names that are told have others, bound ones, too."""
    told = [names.get(part, part) if slot == "n" else renamed(part, names) if slot == "t" else part
            for slot, part in zip(SLOTS[term[0]], term[1:])]
    return (term[0],) + tuple(told)


def names_of(term):
    """All names in a term, bound ones, too, in the order of its text; some perhaps several times."""
    found = []
    bound = [told for slot, told in zip(SLOTS[term[0]], term[1:]) if slot == "n"]
    found += bound
    for part in parts_of(term):
        found += names_of(part)
    return found


class Grown:
    """A right program: the dict from the names of its inputs to their kinds, its term, and the kind of this."""

    def __init__(self, inputs, term, kind):
        self.inputs = inputs
        self.term = term
        self.kind = kind

    def size(self):
        return len(all_paths(self.term))


class Grower:
    """Draws programs; all names of one are unlike."""

    def __init__(self, seed, kind_depth=2, names="ab"):
        self.chance = random.Random(seed)
        self.kind_depth = kind_depth
        self.names = names
        self.many = 0
        self.pool = [self.leaf() for _ in range(6)]

    def fresh(self):
        self.many += 1
        return f"n{self.many}"

    def leaf(self):
        name, kind = self.fresh(), random_kind(self.chance, self.kind_depth, self.names)
        return Grown({name: kind}, ("name", name), kind)

    def anew(self, one):
        """The same program with other names."""
        names = {name: self.fresh() for name in sorted(set(names_of(one.term)))}
        return Grown({names[name]: one.inputs[name] for name in one.inputs}, renamed(one.term, names), one.kind)

    def draw(self, fits=lambda one: True):
        """A program of the pool that fits, or else a leaf made to fit is not told: None."""
        right = [one for one in self.pool if fits(one)]
        return self.anew(self.chance.choice(right)) if right else None

    def matched(self, one, other, held, other_held):
        """The other program with the names of the one, where their inputs but the held ones have the same kinds; or None."""
        rest = [name for name in one.inputs if name not in held]
        more = [name for name in other.inputs if name not in other_held]
        names = {}
        for name in more:
            like = [mine for mine in rest if one.inputs[mine] == other.inputs[name] and mine not in names.values()]
            if not like:
                return None
            names[name] = self.chance.choice(like)
        if len(names) != len(rest):
            return None
        inputs = {names.get(name, name): kind for name, kind in other.inputs.items()}
        return Grown(inputs, renamed(other.term, names), other.kind)

    def without(self, one, names):
        return {name: kind for name, kind in one.inputs.items() if name not in names}

    def step(self):
        word = self.chance.choice(list(SLOTS))
        return getattr(self, "grow_" + word)()

    def grow_name(self):
        return self.leaf()

    def grow_pair(self):
        one, other = self.draw(), self.draw()
        return Grown({**one.inputs, **other.inputs}, ("pair", one.term, other.term), ("pair", one.kind, other.kind))

    def grow_let(self):
        body = self.draw(lambda one: len(one.inputs) > 1)
        if body is None:
            return None
        x, y = self.chance.sample(sorted(body.inputs), 2)
        kind = ("pair", body.inputs[x], body.inputs[y])
        one = self.of_kind(kind)
        return Grown({**one.inputs, **self.without(body, (x, y))}, ("let", x, y, one.term, body.term), body.kind)

    def of_kind(self, kind):
        """A program of the kind, a name if there is no other."""
        one = self.draw(lambda one: one.kind == kind)
        if one is None or self.chance.random() < 0.3:
            name = self.fresh()
            return Grown({name: kind}, ("name", name), kind)
        return one

    def grow_fn(self):
        body = self.draw(lambda one: one.inputs)
        x = self.chance.choice(sorted(body.inputs))
        kind = body.inputs[x]
        return Grown(self.without(body, (x,)), ("fn", x, kind, body.term), ("to", kind, body.kind))

    def grow_apply(self):
        other = self.draw()
        one = self.draw(lambda one: one.kind[0] == "to" and one.kind[1] == other.kind)
        if one is None:
            one = self.of_kind(("to", other.kind, random_kind(self.chance, 1, self.names)))
        return Grown({**one.inputs, **other.inputs}, ("apply", one.term, other.term), one.kind[2])

    def grow_left(self):
        one = self.draw()
        kind = ("sum", one.kind, random_kind(self.chance, 1, self.names))
        return Grown(one.inputs, ("left", one.term, kind), kind)

    def grow_right(self):
        one = self.draw()
        kind = ("sum", random_kind(self.chance, 1, self.names), one.kind)
        return Grown(one.inputs, ("right", one.term, kind), kind)

    def grow_case(self):
        left = self.draw(lambda one: one.inputs)
        x = self.chance.choice(sorted(left.inputs))
        right = self.draw(lambda one: one.kind == left.kind and len(one.inputs) == len(left.inputs))
        y = self.chance.choice(sorted(right.inputs))
        right = self.matched(left, right, (x,), (y,))
        if right is None:
            return None
        one = self.of_kind(("sum", left.inputs[x], right.inputs[y]))
        inputs = {**one.inputs, **self.without(left, (x,))}
        return Grown(inputs, ("case", one.term, x, left.term, y, right.term), left.kind)

    def grow_ways(self):
        one = self.draw()
        other = self.draw(lambda two: sorted(two.inputs.values()) == sorted(one.inputs.values()))
        other = self.matched(one, other, (), ())
        if other is None:
            return None
        return Grown(one.inputs, ("ways", one.term, other.term), ("offer", one.kind, other.kind))

    def grow_first(self):
        return self.half("first", 1)

    def grow_second(self):
        return self.half("second", 2)

    def half(self, word, at):
        one = self.draw(lambda one: one.kind[0] == "offer")
        if one is None:
            one = self.of_kind(("offer", random_kind(self.chance, 1, self.names), random_kind(self.chance, 1, self.names)))
        return Grown(one.inputs, (word, one.term), one.kind[at])


def grown_programs(seed, many, most_terms=12, most_leaves=12, kind_depth=2, names="ab"):
    """So many right programs of all sorts, as pairs of inputs, in a drawn order, and a term."""
    grower = Grower(seed, kind_depth, names)
    found = []
    while len(found) < many:
        one = grower.step()
        if one is None or one.size() > most_terms:
            continue
        leaves = kind_leaves(one.kind) + sum(kind_leaves(kind) for kind in one.inputs.values())
        if leaves > most_leaves:
            continue
        inputs = list(one.inputs.items())
        grower.chance.shuffle(inputs)
        found.append((tuple(inputs), one.term))
        grower.pool.append(one)
        if len(grower.pool) > 120:
            grower.pool.pop(grower.chance.randrange(6, len(grower.pool)))
    return found


def words_in(programs):
    """The words of all terms of the programs."""
    return {term_at(term, path)[0] for _, term in programs for path in all_paths(term)}


def form_of(kind):
    """The form of a kind."""
    if len(kind) == 2:
        return kind
    one, other = form_of(kind[1]), form_of(kind[2])
    if kind[0] == "to":
        return ("between", counter_of(one), other)
    return ({"pair": "both", "sum": "chosen", "offer": "offered"}[kind[0]], one, other)


def term_results(term, things, entries_of):
    """The set of what comes of a term, where its names have these entries; entries_of lists those of a kind."""
    word, rest = term[0], term[1:]

    def told(part, **more):
        return term_results(part, {**things, **more}, entries_of)

    if word == "name":
        return {things[rest[0]]}
    if word in ("pair", "apply"):
        one, other = told(rest[0]), told(rest[1])
        if word == "pair":
            return {(u, v) for u in one for v in other}
        return {r for u, r in one if u in other}
    if word == "let":
        return {r for u, v in told(rest[2]) for r in told(rest[3], **{rest[0]: u, rest[1]: v})}
    if word == "fn":
        return {(u, r) for u in entries_of(rest[1]) for r in told(rest[2], **{rest[0]: u})}
    if word in ("left", "right"):
        return {(("left", "right").index(word), r) for r in told(rest[0])}
    if word == "case":
        return {r for side, u in told(rest[0]) for r in told(rest[2 + 2 * side], **{rest[1 + 2 * side]: u})}
    if word == "ways":
        return {(side, r) for side in (0, 1) for r in told(rest[side])}
    return {r for side, r in told(rest[0]) if side == ("first", "second").index(word)}


def slow_results(inputs, term, sets, given):
    """The ascending list of the results of a program for the entries that are given for its inputs."""
    things = {name: entry for (name, _), entry in zip(inputs, given)}
    return sorted(term_results(term, things, lambda kind: form_entries(form_of(kind), sets)))


def program_meaning(inputs, term, sets):
    """The ascending list of the entries of a program's ends: one for each input, and a result for these."""
    found = []
    for given in itertools.product(*[form_entries(form_of(kind), sets) for _, kind in inputs]):
        found += [given + (result,) for result in slow_results(inputs, term, sets, given)]
    return sorted(found)


def is_given(form):
    if len(form) == 2:
        return form[0] == "good"
    return (is_taken(form[1]) if form[0] == "between" else is_given(form[1])) and is_given(form[2])


def is_taken(form):
    return is_given(counter_of(form))


def program_steps(chance, pool, names):
    """Steps made of deeds of the pool whose ends may be those of a program; right or wrong."""
    one, other = chance.choice(pool), chance.choice(pool)
    i, j = chance.randrange(len(one.ends)), chance.randrange(len(other.ends))
    word = chance.choice(("both", "both", "between", "between", "offer", "offer", "choose", "turn"))
    if word == "both":
        return ("both", one.steps, other.steps, i, j)
    if word == "between":
        return ("between", one.steps, i, chance.randrange(len(one.ends)))
    if word == "choose":
        form = form_of(random_kind(chance, 1, names))
        return ("choose", one.steps, i, chance.randrange(2), form if is_given(one.ends[i]) else counter_of(form))
    if word == "turn":
        order = list(range(len(one.ends)))
        chance.shuffle(order)
        return ("turn", one.steps, tuple(order))
    fitting = [("offer", one.steps, two.steps, i, j) for two in pool for i in range(len(one.ends)) for j in range(len(two.ends))
               if one.ends[:i] + one.ends[i + 1:] == two.ends[:j] + two.ends[j + 1:]
               and is_given(one.ends[i]) == is_given(two.ends[j])]
    return chance.choice(fitting) if fitting else ("link", chance.choice(names))


def deeds_of_programs(seed, many, most_steps=24, most_leaves=12, names="ab"):
    """So many deeds without hand ons, all of whose ends are given or taken."""
    chance = random.Random(seed)
    pool = [Deed(("link", name)) for name in names]
    while len(pool) < many:
        try:
            deed = Deed(program_steps(chance, pool, names))
        except DeedError:
            continue
        if deed.size() > most_steps or len(leaf_list(deed.ends)) > most_leaves or deed in pool:
            continue
        if all(is_given(end) or is_taken(end) for end in deed.ends):
            pool.append(deed)
    return pool
