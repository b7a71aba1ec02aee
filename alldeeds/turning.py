"""Steps within a turn, where one is needed."""


def turned(steps, order):
    """The steps with their ends in this order; a turn that changes nothing is none."""
    return steps if order == tuple(range(len(order))) else ("turn", steps, order)
