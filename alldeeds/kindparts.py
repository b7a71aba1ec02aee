"""What kinds are made of, and their forms; the functions trust their arguments, but for fits_kind."""

from alldeeds.formparts import counter_of, fits_name, is_leaf

HALVED_KINDS = ("pair", "sum", "offer", "to")
FORM_WORDS_OF_KINDS = {"pair": "both", "sum": "chosen", "offer": "offered", "to": "between"}
GIVEN_WORDS = {"both": "pair", "chosen": "sum", "offered": "offer", "between": "to"}
TAKEN_WORDS = {"between": "pair", "offered": "sum", "chosen": "offer", "both": "to"}


def fits_kind(value, room):
    """Whether the value is a kind of this depth at most."""
    if not isinstance(value, tuple) or len(value) not in (2, 3) or not isinstance(value[0], str):
        return False
    if len(value) == 2:
        return value[0] == "good" and fits_name(value[1])
    if value[0] not in HALVED_KINDS or room == 0:
        return False
    return fits_kind(value[1], room - 1) and fits_kind(value[2], room - 1)


def form_told(kind):
    """The form of the kind."""
    if is_leaf(kind):
        return kind
    word, left, right = kind
    one, other = form_told(left), form_told(right)
    if word == "to":
        one = counter_of(one)
    return (FORM_WORDS_OF_KINDS[word], one, other)


def of_halves(word, left, right):
    """The kind of two halves, None if a half is of no kind."""
    if left is None or right is None:
        return None
    return (word, left, right)


def kind_given(form):
    """The kind with this form, None if there is none."""
    if is_leaf(form):
        return form if form[0] == "good" else None
    word, left, right = form
    one = kind_counted(left) if word == "between" else kind_given(left)
    return of_halves(GIVEN_WORDS[word], one, kind_given(right))


def kind_counted(form):
    """The kind whose form is the counter of this one, None if there is none."""
    if is_leaf(form):
        return ("good", form[1]) if form[0] == "counter" else None
    word, left, right = form
    one = kind_given(left) if word == "both" else kind_counted(left)
    return of_halves(TAKEN_WORDS[word], one, kind_counted(right))
