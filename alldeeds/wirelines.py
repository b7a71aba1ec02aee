"""Texts of Wirings: a line for the ends and a line for each wiring."""

from alldeeds.checks import check_text
from alldeeds.formparts import DIGITS
from alldeeds.formreading import take_ends, told_ends
from alldeeds.formtexts import ends_text
from alldeeds.reading import SIDE_WORDS, Reader
from alldeeds.wirings import Wirings, check_wirings

GREATEST = 9999


def wiring_line(wiring):
    """The line of the wiring."""
    choice, links = wiring
    words = []
    if choice:
        words.append("at")
    for fork, side in choice:
        words.extend([str(fork), SIDE_WORDS[side]])
    words.append("links")
    for one, other in links:
        words.append(f"{one}-{other}")
    return " ".join(words)


def wirings_text(wirings):
    """The text of the Wirings."""
    check_wirings(wirings)
    lines = [ends_text(wirings.ends)] + [wiring_line(wiring) for wiring in wirings.wirings]
    return "".join([line + "\n" for line in lines])


def take_side(reader):
    """The number of a fork and the side that stand next."""
    fork = reader.take_number(GREATEST)
    reader.take_spaces()
    return (fork, reader.take_side())


def take_choice(reader):
    """The choice and the word links that stand next, at the beginning of a line."""
    if reader.take_word(("at", "links")) == "links":
        return ()
    reader.take_spaces()
    choice = [take_side(reader)]
    reader.take_spaces()
    while reader.sees(DIGITS):
        choice.append(take_side(reader))
        reader.take_spaces()
    reader.take_word(("links",))
    return tuple(choice)


def take_link(reader):
    """The two numbers of a link that stand next."""
    one = reader.take_number(GREATEST)
    reader.take("-")
    return (one, reader.take_number(GREATEST))


def take_wiring(reader):
    """The wiring of the line that stands next."""
    reader.skip_spaces()
    choice = take_choice(reader)
    reader.take_spaces()
    links = [take_link(reader)]
    while reader.finds_more():
        links.append(take_link(reader))
    return (choice, tuple(links))


def read_wirings(text):
    """The Wirings of the text."""
    check_text(text)
    reader = Reader(text)
    parts = take_ends(reader)
    wirings = []
    while reader.sees("\n"):
        reader.take("\n")
        if not reader.is_done():
            wirings.append(take_wiring(reader))
    reader.finish()
    return Wirings(told_ends(parts), wirings)
