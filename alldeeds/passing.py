"""What stands at the ends of steps, passed on from a step to the steps within, and the other way."""

from alldeeds.stepping import without


def with_put(row, at, thing):
    """The row with the thing at this place."""
    return row[:at] + (thing,) + row[at:]


def with_two_put(row, at, thing, other_at, other):
    """The row with both things at these places, which are their places in the end."""
    if at < other_at:
        return with_put(with_put(row, at, thing), other_at, other)
    return with_put(with_put(row, other_at, other), at, thing)


def rows_within(step, row, many, halves):
    """For each step within, the row of what its ends have, when those of the step, which is no link, have the row.

    The first step within has so many ends. The halves are what the two ends have
    that are not ends of the step: those of which it makes its last end, or which it hands on.
    """
    word = step[0]
    if word == "turn":
        return (tuple([row[step[2].index(end)] for end in range(many)]),)
    rest = row if word == "hand" else row[:-1]
    if word == "between":
        return (with_two_put(rest, step[2], halves[0], step[3], halves[1]),)
    if word == "choose":
        return (with_put(rest, step[2], halves[step[3]]),)
    ones, others = (rest, rest) if word == "offer" else (rest[:many - 1], rest[many - 1:])
    return (with_put(ones, step[3], halves[0]), with_put(others, step[4], halves[1]))


def rest_of_rows(step, rows):
    """What the ends of the step have but the one that it makes, when those of the steps within have the rows.

    The step is no link and no turn.
    """
    word = step[0]
    if word == "between":
        return tuple([thing for at, thing in enumerate(rows[0]) if at not in step[2:]])
    if word == "choose":
        return without(rows[0], step[2])
    if word == "offer":
        return without(rows[0], step[3])
    return without(rows[0], step[3]) + without(rows[1], step[4])


def with_numbers(step, rows, halves):
    """The step, which has no numbers yet or others, with those of the ends that have the halves in the rows within."""
    word = step[0]
    if word == "between":
        return step[:2] + (rows[0].index(halves[0]), rows[0].index(halves[1]))
    if word == "choose":
        return step[:2] + (rows[0].index(halves[step[3]]),) + step[3:]
    return step[:3] + (rows[0].index(halves[0]), rows[1].index(halves[1]))
