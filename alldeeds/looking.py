"""Programs are looked at here, term by term, up to the first wrong one."""

from alldeeds.errors import WrongTerm
from alldeeds.formparts import DEEPEST, depth_of


class Look:
    """The kind of a term, and the ascending tuple of the names in sight that it uses."""

    def __init__(self, kind, names):
        self.kind = kind
        self.names = tuple(sorted(names))


class Sight:
    """Where a term stands: its path, the kinds of the names in sight, and those of them that were used before."""

    def __init__(self, path, kinds, used):
        self.path = path
        self.kinds = kinds
        self.used = used

    def at_part(self, number, used):
        """Where a part stands, ahead of which more names were used."""
        return Sight(self.path + (number,), self.kinds, self.used + used)

    def with_names(self, kinds):
        """The same place with more names in sight."""
        return Sight(self.path, {**self.kinds, **kinds}, self.used)

    def check(self, holds):
        """Raises WrongTerm if the term that stands here is wrong."""
        if not holds:
            raise WrongTerm(self.path)

    def check_fresh(self, names):
        """Raises WrongTerm if a name that the term binds is in sight."""
        self.check(not any([name in self.kinds for name in names]))

    def made(self, word, one, other):
        """The kind of two halves, which must not be too deep."""
        kind = (word, one, other)
        self.check(depth_of(kind) <= DEEPEST)
        return kind

    def free(self, look, names):
        """The names in sight here that a part uses in which these names are bound, all of which it must use."""
        self.check(all([name in look.names for name in names]))
        return tuple([name for name in look.names if name not in names])


class Looker:
    """Looks at terms, and keeps what it sees for each path."""

    def __init__(self):
        self.looks = {}

    def look(self, term, sight):
        """The Look at the term that stands there."""
        looker = LOOKERS[term[0]]
        look = looker(self, term, sight)
        self.looks[sight.path] = look
        return look

    def look_at_parts(self, parts, sight):
        """The list of the Looks at the parts, which use no names twice."""
        looks = []
        used = ()
        for number, part in enumerate(parts):
            looks.append(self.look(part, sight.at_part(number, used)))
            used = used + looks[-1].names
        return looks


def look_at_name(looker, term, sight):
    """The Look at a name."""
    name = term[1]
    sight.check(name in sight.kinds and name not in sight.used)
    return Look(sight.kinds[name], (name,))


def look_at_pair(looker, term, sight):
    """The Look at a pair."""
    one, other = looker.look_at_parts(term[1:], sight)
    return Look(sight.made("pair", one.kind, other.kind), one.names + other.names)


def look_at_let(looker, term, sight):
    """The Look at a let."""
    x, y, pair, body = term[1:]
    sight.check(x != y)
    sight.check_fresh((x, y))
    one = looker.look(pair, sight.at_part(0, ()))
    sight.check(one.kind[0] == "pair")
    within = sight.at_part(1, one.names).with_names({x: one.kind[1], y: one.kind[2]})
    other = looker.look(body, within)
    return Look(other.kind, one.names + sight.free(other, (x, y)))


def look_at_fn(looker, term, sight):
    """The Look at a fn."""
    x, kind, body = term[1:]
    sight.check_fresh((x,))
    one = looker.look(body, sight.at_part(0, ()).with_names({x: kind}))
    return Look(sight.made("to", kind, one.kind), sight.free(one, (x,)))


def look_at_apply(looker, term, sight):
    """The Look at an apply."""
    one, other = looker.look_at_parts(term[1:], sight)
    sight.check(one.kind[0] == "to" and one.kind[1] == other.kind)
    return Look(one.kind[2], one.names + other.names)


def look_at_side(looker, term, sight):
    """The Look at a left or a right."""
    word, part, kind = term
    one = looker.look_at_parts([part], sight)[0]
    half = 1 if word == "left" else 2
    sight.check(kind[0] == "sum" and kind[half] == one.kind)
    return Look(kind, one.names)


def look_at_case(looker, term, sight):
    """The Look at a case."""
    part, x, left, y, right = term[1:]
    sight.check_fresh((x, y))
    one = looker.look(part, sight.at_part(0, ()))
    sight.check(one.kind[0] == "sum")
    two = looker.look(left, sight.at_part(1, one.names).with_names({x: one.kind[1]}))
    three = looker.look(right, sight.at_part(2, one.names).with_names({y: one.kind[2]}))
    names = sight.free(two, (x,))
    sight.check(names == sight.free(three, (y,)) and two.kind == three.kind)
    return Look(two.kind, one.names + names)


def look_at_ways(looker, term, sight):
    """The Look at ways."""
    one = looker.look(term[1], sight.at_part(0, ()))
    other = looker.look(term[2], sight.at_part(1, ()))
    sight.check(one.names == other.names)
    return Look(sight.made("offer", one.kind, other.kind), one.names)


def look_at_half(looker, term, sight):
    """The Look at a first or a second."""
    one = looker.look_at_parts(term[1:], sight)[0]
    sight.check(one.kind[0] == "offer")
    return Look(one.kind[1 if term[0] == "first" else 2], one.names)


LOOKERS = {
    "name": look_at_name,
    "pair": look_at_pair,
    "let": look_at_let,
    "fn": look_at_fn,
    "apply": look_at_apply,
    "left": look_at_side,
    "right": look_at_side,
    "case": look_at_case,
    "ways": look_at_ways,
    "first": look_at_half,
    "second": look_at_half,
}


def looks_at(inputs, term):
    """The dict from the paths of all terms of the program to the pairs of their kinds and the names that they use."""
    looker = Looker()
    sight = Sight((), dict(inputs), ())
    look = looker.look(term, sight)
    sight.check(len(look.names) == len(inputs))
    return {path: (looker.looks[path].kind, looker.looks[path].names) for path in looker.looks}
