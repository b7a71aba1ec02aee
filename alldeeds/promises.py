"""Promises, and their texts."""

from alldeeds.checks import check_text
from alldeeds.errors import BadPromise, BadValue
from alldeeds.formparts import DIGITS, fits_name
from alldeeds.values import is_list, is_number_below

MANY_NUMBERS = 10000
# for each word what stands behind it in the promise, the first one ahead of it in the text
SORTS = {
    "alike": ("name", "name"),
    "for": ("name", "name"),
    "plain": ("name",),
    "open": ("name",),
    "has": ("name", "number"),
    "same": ("name", "name"),
    "apart": ("name", "number"),
}


def fits_place(sort, value):
    """Whether the value may stand at a place of this sort."""
    return fits_name(value) if sort == "name" else is_number_below(value, MANY_NUMBERS)


def fits_promise(value):
    """Whether the value is a promise."""
    if not is_list(value) or not value or not isinstance(value[0], str):
        return False
    sorts = SORTS.get(value[0], ())
    if not sorts or len(value) != 1 + len(sorts):
        return False
    return all([fits_place(sort, told) for sort, told in zip(sorts, value[1:])])


def check_promise(promise):
    """Raises BadValue for what is no promise."""
    if not fits_promise(promise):
        raise BadValue(promise)


def promise_text(promise):
    """The text of the promise."""
    check_promise(promise)
    return " ".join([promise[1], promise[0]] + [str(told) for told in promise[2:]])


def number_read(word):
    """The number that is written so, None if none is."""
    if not 1 <= len(word) <= 4 or not all([sign in DIGITS for sign in word]):
        return None
    return int(word) if word[0] != "0" or word == "0" else None


def promise_read(text):
    """The promise of the text, None if it is no text of one."""
    words = [word for word in text.split(" ") if word]
    if len(words) < 2:
        return None
    told = [words[1], words[0]] + words[2:]
    if SORTS.get(words[1], ())[1:] == ("number",):
        told = told[:2] + [number_read(word) for word in told[2:]]
    return tuple(told) if fits_promise(told) else None


def read_promise(text):
    """The promise of the text."""
    check_text(text)
    promise = promise_read(text)
    if promise is None:
        raise BadPromise(text)
    return promise
