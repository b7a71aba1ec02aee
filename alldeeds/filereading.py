"""Reading files: items, one below the other, with lines of spaces anywhere between their lines."""

from alldeeds.checking import Program
from alldeeds.deeds import Deed
from alldeeds.deedtexts import take_line
from alldeeds.errors import NotAText
from alldeeds.formreading import take_ends, told_ends
from alldeeds.programdeeds import check_leaves
from alldeeds.termreading import take_program

ITEM_WORDS = ("ends", "deed", "program")
ITEM_BEGINS = "edp"


def skip_lines(reader):
    """Reads lines of spaces alone, and the spaces ahead of what stands in the next one."""
    reader.skip_spaces()
    while reader.sees("\n"):
        reader.take("\n")
        reader.skip_spaces()


def finish_line(reader):
    """Reads up to the end of the line, on which nothing may stand."""
    reader.skip_spaces()
    if not reader.is_done():
        reader.take("\n")


def take_ends_line(reader):
    """The ends of the line that stands next, as Written."""
    parts = take_ends(reader)
    finish_line(reader)
    return parts


def take_program_line(reader):
    """The program of the line that stands next, as a ReadProgram."""
    part = take_program(reader)
    finish_line(reader)
    return part


def take_deed_lines(reader):
    """The steps of the deed of which the lines stand next, up to the next item."""
    unused = {}
    many = 0
    while True:
        skip_lines(reader)
        if len(unused) == 1 and (reader.is_done() or reader.sees(ITEM_BEGINS)):
            return unused[str(many)]
        step = take_line(reader, unused)
        many += 1
        unused[str(many)] = step
        finish_line(reader)


TAKERS = {"ends": take_ends_line, "deed": take_deed_lines, "program": take_program_line}


def told_ends_item(parts):
    """What stands behind the name of an ends item."""
    return (tuple(told_ends(parts)),)


def told_deed_item(steps):
    """What stands behind the name of a deed item."""
    return (Deed(steps).steps,)


def told_program_item(part):
    """What stands behind the name of a program item."""
    inputs, term = part.told()
    check_leaves(Program(inputs, term))
    return (inputs, term)


TELLERS = {"ends": told_ends_item, "deed": told_deed_item, "program": told_program_item}


def take_item(reader, names):
    """The item that stands next, whose name is none of these, as a triple of its word, its name and what is read."""
    word = reader.take_word(ITEM_WORDS)
    reader.take_spaces()
    name = reader.take_name()
    if name in names:
        raise NotAText(reader.at)
    reader.skip_spaces()
    reader.take("\n")
    skip_lines(reader)
    taker = TAKERS[word]
    return (word, name, taker(reader))


def take_items(reader):
    """The list of all items that stand next, each as a triple."""
    items = []
    skip_lines(reader)
    while not reader.is_done():
        items.append(take_item(reader, [name for _, name, _ in items]))
        skip_lines(reader)
    return items


def told_item(triple):
    """The item that is read; an error if it is wrong."""
    word, name, part = triple
    teller = TELLERS[word]
    return (word, name) + teller(part)
