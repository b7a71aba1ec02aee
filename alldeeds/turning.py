"""Steps within a turn, where one is needed."""


def turning(steps, order):
    """How steps are turned into the order: a pair.

    First whether it is the step within them that is turned, or stays as it is; then
    the order of the turn around it, None if there is none.
    """
    unchanged = tuple(range(len(order)))
    if order == unchanged:
        return (False, None)
    if steps[0] != "turn":
        return (False, order)
    joined = tuple([steps[2][end] for end in order])
    return (True, None if joined == unchanged else joined)


def turned(steps, order):
    """The steps with their ends in this order: a turn of a turn is one turn, and a turn that changes nothing none."""
    within, around = turning(steps, order)
    inner = steps[1] if within else steps
    return inner if around is None else ("turn", inner, around)
