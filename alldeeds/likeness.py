"""Whether two deeds do the same, and the things by which they part."""

from alldeeds.deeds import check_deed
from alldeeds.entering import entry_of_ends
from alldeeds.errors import Unlike
from alldeeds.layouts import Layout
from alldeeds.wired import wirings_of


def alike(one, other):
    """Whether the two Deeds have the same ends and the same wirings."""
    check_deed(one)
    check_deed(other)
    return one.ends == other.ends and wirings_of(one) == wirings_of(other)


def first_unlike(one, other):
    """The first choice with which the wirings differ, and the links that each has there; None if alike."""
    check_deed(one)
    check_deed(other)
    if one.ends != other.ends:
        raise Unlike()
    # a deed has at most one wiring for each choice
    ones = {choice: links for choice, links in wirings_of(one).wirings}
    others = {choice: links for choice, links in wirings_of(other).wirings}
    for choice in sorted(set(list(ones) + list(others))):
        if ones.get(choice) != others.get(choice):
            return (choice, ones.get(choice), others.get(choice))
    return None


def parting(one, other):
    """Which of the two Deeds has an entry over two things that the other one has not, and that entry."""
    first = first_unlike(one, other)
    if first is None:
        return None
    choice, links, other_links = first
    layout = Layout(one.ends)
    things = {leaf.number: 0 for leaf in layout.leaves}
    if links is None or other_links is None:
        which = 0 if other_links is None else 1
        return (which, entry_of_ends(layout, choice, things))
    # the other one links these two leaves with leaves that have the other thing
    for leaf in [link for link in links if link not in other_links][0]:
        things[leaf] = 1
    return (0, entry_of_ends(layout, choice, things))
