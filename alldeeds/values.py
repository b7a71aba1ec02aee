"""Which plain values are numbers, sides and lists."""


def is_integer(value):
    """Whether the value is an integer; True and False are none."""
    return isinstance(value, int) and not isinstance(value, bool)


def is_whole(value):
    """Whether the value is a whole number."""
    return is_integer(value) and value >= 0


def is_number_below(value, many):
    """Whether the value numbers one of so many things, counted from 0."""
    return is_integer(value) and 0 <= value < many


def is_side(value):
    """Whether the value is one of the two sides."""
    return is_number_below(value, 2)


def is_list(value):
    """Whether the value is a list, or a tuple that may stand for one."""
    return isinstance(value, (list, tuple))


def is_order(value, many):
    """Whether the list or tuple has the numbers of so many things, each once."""
    return all([is_integer(number) for number in value]) and sorted(value) == list(range(many))


def as_tuple(value):
    """The value, a list as a tuple, so that later changes of the list change nothing."""
    return tuple(value) if isinstance(value, list) else value
