"""Cuts of one wiring, and whether each of them leaves one tree."""

from alldeeds.errors import BadValue, TooMany
from alldeeds.pictures import Picture, pieces, ring_of
from alldeeds.values import as_tuple, is_integer, is_number_below, is_side
from alldeeds.wirings import check_wirings

MOST_BETWEENS = 12


class BadCut:
    """A cut that does not leave one tree, with a ring and a loose piece that it leaves, or None for these."""

    def __init__(self, cut, ring, loose):
        self.cut = as_tuple(cut)
        self.ring = as_tuple(ring)
        self.loose = as_tuple(loose)


def picture_of(wirings, number):
    """The picture of the wiring with this number."""
    check_wirings(wirings)
    if not is_number_below(number, len(wirings.wirings)):
        raise BadValue(number)
    return Picture(wirings.ends, wirings.wirings[number])


def nodes_of(wirings, number):
    """The ascending tuple of the met nodes."""
    return tuple(picture_of(wirings, number).nodes)


def lines_of(wirings, number):
    """The ascending tuple of the lines, each a pair of nodes."""
    return tuple(picture_of(wirings, number).lines)


def is_node(value):
    """Whether the value looks like a node: True would be equal to 1 in it."""
    return isinstance(value, tuple) and all([is_integer(part) for part in value])


def fits_cut(picture, value):
    """Whether the value is a cut of the wiring."""
    if not isinstance(value, tuple) or len(value) != len(picture.betweens):
        return False
    for pair, node in zip(value, picture.betweens):
        if not isinstance(pair, tuple) or len(pair) != 2 or not is_side(pair[1]):
            return False
        if not is_node(pair[0]) or pair[0] != node:
            return False
    return True


def staying_lines(picture, cut):
    """The lines that the cut does not take away."""
    away = {(node, node + (side,)): True for node, side in cut}
    return [line for line in picture.lines if line not in away]


def leaves_one_tree(wirings, number, cut):
    """Whether the lines that the cut leaves join all met nodes without a ring."""
    picture = picture_of(wirings, number)
    if not fits_cut(picture, cut):
        raise BadValue(cut)
    lines = staying_lines(picture, cut)
    return len(lines) == len(picture.nodes) - 1 and len(pieces(picture.nodes, lines)) == 1


def bad_sides(joints, piece_numbers, at):
    """Sides of a cut, from the joint with this number on, that leave a ring; None if none do.

    A joint has the pieces of a between and of its halves, before any line of a
    between is laid; piece_numbers tells of each piece with which one it is joined.
    """
    if at == len(joints):
        return None
    between, left, right = joints[at]
    for side, half in ((0, right), (1, left)):
        one, other = piece_numbers[between], piece_numbers[half]
        if one == other:
            return [side] + [0] * (len(joints) - at - 1)
        joined = [one if number == other else number for number in piece_numbers]
        below = bad_sides(joints, joined, at + 1)
        if below is not None:
            return [side] + below
    return None


def find_bad_sides(picture):
    """Sides of a cut that does not leave one tree; None if there is none."""
    first_sides = [0] * len(picture.betweens)
    if len(picture.lines) - len(picture.betweens) != len(picture.nodes) - 1:
        return first_sides
    cuttable = {(node, node + (side,)): True for node in picture.betweens for side in (0, 1)}
    fixed = [line for line in picture.lines if line not in cuttable]
    if ring_of(fixed) is not None:
        return first_sides
    found = pieces(picture.nodes, fixed)
    places = {node: at for at, piece in enumerate(found) for node in piece}
    joints = [(places[node], places[node + (0,)], places[node + (1,)]) for node in picture.betweens]
    return bad_sides(joints, list(range(len(found))), 0)


def bad_cut(wirings, number):
    """A BadCut of the wiring, None if it is sound."""
    picture = picture_of(wirings, number)
    if len(picture.betweens) > MOST_BETWEENS:
        raise TooMany(MOST_BETWEENS)
    sides = find_bad_sides(picture)
    if sides is None:
        return None
    cut = tuple(zip(picture.betweens, sides))
    lines = staying_lines(picture, cut)
    found = pieces(picture.nodes, lines)
    loose = found[0] if len(found) > 1 else None
    return BadCut(cut, ring_of(lines), loose)


def first_unsound(wirings):
    """The number of the first wiring that is not sound, None if there is none."""
    check_wirings(wirings)
    for number in range(len(wirings.wirings)):
        if bad_cut(wirings, number) is not None:
            return number
    return None
