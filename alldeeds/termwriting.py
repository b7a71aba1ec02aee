"""Writing programs; the functions trust their arguments."""

from alldeeds.formtexts import written

OPENED = ("let", "fn", "case")


def written_let(term):
    """The text of a let."""
    _, x, y, one, other = term
    return f"let {x}, {y} = {written_term(one)} in {written_term(other)}"


def written_fn(term):
    """The text of a fn."""
    _, x, kind, body = term
    return f"fn {x} : {written(kind)} . {written_term(body)}"


def written_case(term):
    """The text of a case."""
    _, one, x, left, y, right = term
    return f"case {written_term(one)} of {x} . {written_term(left)} or {y} . {written_term(right)}"


def written_apply(term):
    """The text of an apply."""
    _, one, other = term
    begin = written_term(one) if one[0] == "apply" else written_piece(one)
    return begin + " " + written_piece(other)


def written_name(term):
    """The text of a name."""
    return term[1]


def written_pair(term):
    """The text of a pair."""
    return "(" + written_term(term[1]) + ", " + written_term(term[2]) + ")"


def written_ways(term):
    """The text of ways."""
    return "[" + written_term(term[1]) + ", " + written_term(term[2]) + "]"


def written_side(term):
    """The text of a left or a right."""
    return term[0] + "(" + written_term(term[1]) + " : " + written(term[2]) + ")"


def written_half(term):
    """The text of a first or a second."""
    return term[0] + " " + written_piece(term[1])


WRITERS = {
    "name": written_name,
    "pair": written_pair,
    "let": written_let,
    "fn": written_fn,
    "apply": written_apply,
    "left": written_side,
    "right": written_side,
    "case": written_case,
    "ways": written_ways,
    "first": written_half,
    "second": written_half,
}


def written_term(term):
    """The text of the term."""
    writer = WRITERS[term[0]]
    return writer(term)


def written_piece(term):
    """The text of the term as a piece."""
    if term[0] in OPENED or term[0] == "apply":
        return "(" + written_term(term) + ")"
    return written_term(term)


def written_program(inputs, term):
    """The text of the inputs and the term."""
    told = ", ".join([f"{name} : {written(kind)}" for name, kind in inputs])
    return told + (" ; " if inputs else "; ") + written_term(term)
