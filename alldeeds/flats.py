"""Flat forms, made of forms whose leaves and forks are numbered."""

from alldeeds.formparts import FORK_WORDS, fits_name, is_leaf

MOST_FLAT_DEPTH = 24
PART_WORDS = ("both", "between", "offered", "chosen")
# a form with such a word shares its other parts out among those of a part with this word
SHARING_WORDS = {"both": "chosen", "between": "offered"}


class Flat:
    """A flat form with the number of its leaf, or its parts.

    The sides are those of the forks of the form at which it stands, if it is a
    part of a fork: just the choices with these sides take this part.
    """

    def __init__(self, form, leaf, parts, sides):
        self.form = form
        self.leaf = leaf
        self.parts = parts
        self.sides = sides

    def with_sides(self, sides):
        """The same flat form where it stands at these sides."""
        return Flat(self.form, self.leaf, self.parts, sides)

    def as_parts(self, word, sides):
        """The list of what stands for it among the parts of the word, at more sides."""
        if self.form[0] == word:
            return [part.with_sides(sides + part.sides) for part in self.parts]
        return [self.with_sides(sides)]


def flat_of_parts(word, parts):
    """The Flat of the word with these parts."""
    ascending = tuple(sorted(parts, key=lambda part: part.form))
    return Flat((word, tuple([part.form for part in ascending])), -1, ascending, ())


def rows_of(half, word):
    """The list of the rows of a half that is shared out: for each the sides, and the parts."""
    if half.form[0] == SHARING_WORDS[word]:
        return [(part.sides, part.as_parts(word, ())) for part in half.parts]
    return [((), half.as_parts(word, ()))]


def shared_out(word, left, right):
    """The Flat of two halves of a both or a between."""
    sharing = SHARING_WORDS[word]
    rows = []
    for sides, parts in rows_of(left, word):
        for more_sides, more_parts in rows_of(right, word):
            rows.append(flat_of_parts(word, parts + more_parts).with_sides(sides + more_sides))
    if sharing not in (left.form[0], right.form[0]):
        return rows[0]
    return flat_of_parts(sharing, rows)


def flat_at(place):
    """The Flat of the form of the place."""
    if not place.halves:
        return Flat(place.form, place.number, (), ())
    left, right = [flat_at(half) for half in place.halves]
    if place.word not in FORK_WORDS:
        return shared_out(place.word, left, right)
    sides = [((place.number, side),) for side in (0, 1)]
    return flat_of_parts(place.word, left.as_parts(place.word, sides[0]) + right.as_parts(place.word, sides[1]))


def flat_size(form):
    """The word of the flat form of the form, how many parts it has if it is a fork, and how many leaves."""
    if is_leaf(form):
        return (form[0], 1, 1)
    word = form[0]
    sharing = SHARING_WORDS.get(word, word)
    sizes = [flat_size(half) for half in form[1:]]
    # what is no fork with the word in question is one part of it
    one, other = [many if part == sharing else 1 for part, many, _ in sizes]
    leaves, more = [size[2] for size in sizes]
    if word in FORK_WORDS:
        return (word, one + other, leaves + more)
    told = sharing if sharing in (sizes[0][0], sizes[1][0]) else word
    return (told, one * other, leaves * other + more * one)


def fits_flat(value, room):
    """Whether the value is a flat form of this depth at most."""
    if not isinstance(value, tuple) or len(value) != 2 or not isinstance(value[0], str):
        return False
    word, parts = value
    if word in ("good", "counter"):
        return fits_name(parts)
    if word not in PART_WORDS or room == 0 or not isinstance(parts, tuple) or len(parts) < 2:
        return False
    for at, part in enumerate(parts):
        # one of equal parts is looked at: a value in which one tuple stands often would take too long
        if (at == 0 or part != parts[at - 1]) and not fits_flat(part, room - 1):
            return False
    barred = (word, SHARING_WORDS.get(word, word))
    return list(parts) == sorted(parts) and not any([part[0] in barred for part in parts])


def is_flat_leaf(flat):
    """Whether the flat form is a good or a counter."""
    return isinstance(flat[1], str)


def fits_grouped(flat, room):
    """Whether the form in which the parts are grouped has this depth at most."""
    if is_flat_leaf(flat):
        return True
    parts = flat[1]
    if len(parts) - 1 > room:
        return False
    # the last part is a half of the form, the first two stand side by side
    return all([fits_grouped(part, room - len(parts) + max(at, 1)) for at, part in enumerate(parts)])


def form_grouped(flat):
    """The form in which the parts are grouped, always the first ones at first."""
    if is_flat_leaf(flat):
        return flat
    form = form_grouped(flat[1][0])
    for part in flat[1][1:]:
        form = (flat[0], form, form_grouped(part))
    return form
