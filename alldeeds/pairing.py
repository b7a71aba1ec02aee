"""Ways between two forms with one flat form: their parts, paired with equal ones.

A way is told as a list of rows: the sides that a choice of both forms takes, and
the links between the leaves that it meets.
"""

from itertools import permutations


def equal_runs(parts):
    """The list of the lists of equal parts; the parts ascend."""
    runs = []
    for part in parts:
        if runs and runs[-1][0].form == part.form:
            runs[-1].append(part)
        else:
            runs.append([part])
    return runs


def order_count(flat):
    """How many exchanges of equal parts there are in the flat form, over it and all within."""
    many = 1
    for run in equal_runs(flat.parts):
        for number, part in enumerate(run):
            many = many * (number + 1) * order_count(part)
    return many


def all_pairings(one, other):
    """The list of all ways to pair the parts of the one with equal ones of the other, each a list of pairs."""
    found = [[]]
    for run, other_run in zip(equal_runs(one.parts), equal_runs(other.parts)):
        orders = [list(zip(run, order)) for order in permutations(other_run)]
        found = [pairs + order for pairs in found for order in orders]
    return found


def rows_at(rows, one, other):
    """The rows with the sides at which the two stand."""
    return [(one.sides + other.sides + sides, links) for sides, links in rows]


def rows_beside(rows, others):
    """Each of the rows together with each of the others."""
    return [(sides + more, links + pairs) for sides, links in rows for more, pairs in others]


def rows_of_parts(word, ways):
    """The rows of the whole, with one way for each pair of parts."""
    if word in ("offered", "chosen"):
        return [row for rows in ways for row in rows]
    told = ways[0]
    for rows in ways[1:]:
        told = rows_beside(told, rows)
    return told


def straight_rows(one, other):
    """The rows of the way that pairs the parts in their order."""
    if not one.parts:
        return [((), ((one.leaf, other.leaf),))]
    pairs = list(zip(one.parts, other.parts))
    return rows_of_parts(one.form[0], [rows_at(straight_rows(part, like), part, like) for part, like in pairs])


def ways_of_pairs(word, pairs):
    """The rows of all ways that pair the parts so."""
    chosen = [[]]
    for part, like in pairs:
        ways = [rows_at(rows, part, like) for rows in all_rows(part, like)]
        chosen = [told + [rows] for told in chosen for rows in ways]
    return [rows_of_parts(word, told) for told in chosen]


def all_rows(one, other):
    """The list of the rows of all ways."""
    if not one.parts:
        return [straight_rows(one, other)]
    return [rows for pairs in all_pairings(one, other) for rows in ways_of_pairs(one.form[0], pairs)]
