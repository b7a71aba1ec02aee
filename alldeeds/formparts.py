"""What forms are made of; the functions trust their arguments, those that say "value" trust nothing."""

LETTERS = "abcdefghijklmnopqrstuvwxyz"
DIGITS = "0123456789"
LONGEST_NAME = 12
DEEPEST = 12
MOST_LEAVES = 40
LEAF_WORDS = ("good", "counter")
HALVED_WORDS = ("both", "between", "offered", "chosen")
FORK_WORDS = ("offered", "chosen")
COUNTER_WORDS = {
    "good": "counter",
    "counter": "good",
    "both": "between",
    "between": "both",
    "offered": "chosen",
    "chosen": "offered",
}


def fits_name(value):
    """Whether the value is a name."""
    if not isinstance(value, str) or not 1 <= len(value) <= LONGEST_NAME:
        return False
    return value[0] in LETTERS and all([sign in LETTERS or sign in DIGITS for sign in value])


def fits_form(value, room):
    """Whether the value is a form of this depth at most."""
    if not isinstance(value, tuple) or len(value) not in (2, 3) or not isinstance(value[0], str):
        return False
    if len(value) == 2:
        return value[0] in LEAF_WORDS and fits_name(value[1])
    if value[0] not in HALVED_WORDS or room == 0:
        return False
    return fits_form(value[1], room - 1) and fits_form(value[2], room - 1)


def fits_ends(value):
    """Whether the value is a list of ends."""
    if not isinstance(value, (list, tuple)) or not 1 <= len(value) <= MOST_LEAVES:
        return False
    many = 0
    for form in value:
        if not fits_form(form, DEEPEST):
            return False
        many += leaf_count(form)
        if many > MOST_LEAVES:
            return False
    return True


def is_leaf(form):
    """Whether the form is a good or a counter."""
    return len(form) == 2


def counter_of(form):
    """The counter of the form."""
    word = COUNTER_WORDS[form[0]]
    if is_leaf(form):
        return (word, form[1])
    return (word, counter_of(form[1]), counter_of(form[2]))


def depth_of(form):
    """The depth of the form."""
    if is_leaf(form):
        return 0
    return 1 + max(depth_of(form[1]), depth_of(form[2]))


def leaf_count(form):
    """How many leaves the form has."""
    if is_leaf(form):
        return 1
    return leaf_count(form[1]) + leaf_count(form[2])


def fork_count(form):
    """How many forks the form has."""
    if is_leaf(form):
        return 0
    within = fork_count(form[1]) + fork_count(form[2])
    if form[0] in FORK_WORDS:
        return within + 1
    return within


def choice_total(form):
    """How many choices the form alone has."""
    if is_leaf(form):
        return 1
    left, right = choice_total(form[1]), choice_total(form[2])
    if form[0] in FORK_WORDS:
        return left + right
    return left * right


def goods_of(form):
    """The list of the names in the form, as often as they occur."""
    if is_leaf(form):
        return [form[1]]
    return goods_of(form[1]) + goods_of(form[2])


def form_with(form, forms):
    """The form in which goods are replaced by the forms that are told for their names."""
    if not is_leaf(form):
        return (form[0], form_with(form[1], forms), form_with(form[2], forms))
    if form[1] not in forms:
        return form
    if form[0] == "good":
        return forms[form[1]]
    return counter_of(forms[form[1]])


def depth_with(form, depths):
    """The depth of the form if each good that is told becomes so deep.

    The replaced form itself may have millions of parts, so it is not made for this.
    """
    if is_leaf(form):
        return depths.get(form[1], 0)
    return 1 + max(depth_with(form[1], depths), depth_with(form[2], depths))


def leaf_count_with(form, counts):
    """How many leaves the form has if each good that is told becomes so many."""
    if is_leaf(form):
        return counts.get(form[1], 1)
    return leaf_count_with(form[1], counts) + leaf_count_with(form[2], counts)
