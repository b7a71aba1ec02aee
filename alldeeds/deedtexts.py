"""Texts of deeds: a line for each step."""

from alldeeds.checks import check_text
from alldeeds.deeds import Deed, check_deed, steps_of
from alldeeds.errors import NotAText
from alldeeds.formreading import take_form
from alldeeds.formtexts import form_text
from alldeeds.reading import SIDE_WORDS, Reader
from alldeeds.stepping import numbers_within

LAST_END = 39
WORDS_OF_NONE = ("link",)
WORDS_OF_ONE = ("link", "between", "choose", "turn")
WORDS_OF_TWO = ("link", "between", "choose", "turn", "both", "offer", "hand")


def step_line(step, numbers):
    """The line of the step, of which the steps within have these numbers."""
    word = step[0]
    if word == "link":
        return "link " + step[1]
    begin = " ".join([word] + [str(number) for number in numbers])
    if word == "turn":
        return begin + " as " + " ".join([str(end) for end in step[2]])
    if word == "choose":
        return f"{begin} at {step[2]} {SIDE_WORDS[step[3]]} {form_text(step[4])}"
    i, j = step[-2:]
    return f"{begin} at {i} {j}"


def deed_text(deed):
    """The text of the deed."""
    check_deed(deed)
    found = steps_of(deed)
    lines = []
    for at, within in enumerate(numbers_within(found)):
        lines.append(step_line(found[at], [number + 1 for number in within]) + "\n")
    return "".join(lines)


def take_step(reader, unused):
    """The step of the line whose number stands next, taken away from those that are not used."""
    reader.take_spaces()
    start = reader.at
    digits = reader.take_digits()
    if digits in unused:
        return unused.pop(digits)
    digits = digits[:max([len(number) for number in unused])]
    # the number of some line may begin with less of the digits
    while not any([number.startswith(digits) for number in unused]):
        digits = digits[:-1]
    raise NotAText(start + len(digits))


def take_end(reader):
    """The number of an end that stands next, behind spaces."""
    reader.take_spaces()
    return reader.take_number(LAST_END)


def take_order(reader):
    """The numbers of ends that stand next, at least one."""
    order = [take_end(reader)]
    while reader.finds_more():
        order.append(reader.take_number(LAST_END))
    return tuple(order)


def take_chosen(reader):
    """The side and the form of a choose that stand next."""
    reader.take_spaces()
    side = reader.take_side()
    if not reader.sees("("):
        reader.take_spaces()
    # None, for a form that is too deep, makes a wrong step, as that form would
    return (side, take_form(reader).form)


def words_for(many):
    """The words with which a line may begin when so many lines are not used."""
    if many == 0:
        return WORDS_OF_NONE
    if many == 1:
        return WORDS_OF_ONE
    return WORDS_OF_TWO


def take_line(reader, unused):
    """The step of the line that stands next, made of lines that are not used."""
    reader.skip_spaces()
    word = reader.take_word(words_for(len(unused)))
    if word == "link":
        reader.take_spaces()
        return ("link", reader.take_name())
    begin = (word, take_step(reader, unused))
    if word in ("both", "offer", "hand"):
        begin = begin + (take_step(reader, unused),)
    reader.take_spaces()
    if word == "turn":
        reader.take_word(("as",))
        return begin + (take_order(reader),)
    reader.take_word(("at",))
    begin = begin + (take_end(reader),)
    if word == "choose":
        return begin + take_chosen(reader)
    return begin + (take_end(reader),)


def take_steps(reader):
    """The steps of the whole deed of which the lines stand next."""
    unused = {}
    many = 0
    while True:
        step = take_line(reader, unused)
        many += 1
        unused[str(many)] = step
        reader.skip_spaces()
        if not reader.is_done():
            reader.take("\n")
        if reader.is_done() and len(unused) == 1:
            return step


def read_deed(text):
    """The Deed of the text."""
    check_text(text)
    return Deed(take_steps(Reader(text)))
