"""What tries gain at each place, and how they gain most together; all in whole numbers."""


def losses_at(stake, strengths, tries):
    """For 0 to `tries` tries at a cell, what each group loses; the strengths are told group by group."""
    return [[stake * len([strength for strength in group if strength < many]) for group in strengths]
            for many in range(tries + 1)]


def weighed(losses, weights):
    """For each number of tries the sum of the groups' losses times their weights."""
    return [sum([weight * lost for weight, lost in zip(weights, row)]) for row in losses]


def most_gains(gains, tries):
    """Entry i, left: the most that at most so many tries gain at the places from index i on."""
    after = [0] * (tries + 1)
    table = [after]
    for at in range(len(gains) - 1, -1, -1):
        row = gains[at]
        after = [max([int(row[many] + after[left - many]) for many in range(left + 1)]) for left in range(tries + 1)]
        table.append(after)
    table.reverse()
    return table


def best_spread_of(cells, gains, most):
    """A spread at the cells that reaches the most, with as few tries at each cell as will do."""
    left = len(most[0]) - 1
    spread = []
    for at, (gate, hour) in enumerate(cells):
        tries = 0
        while gains[at][tries] + most[at + 1][left - tries] < most[at][left]:
            tries = tries + 1
        if tries > 0:
            spread.append((gate, hour, tries))
        left = left - tries
    return tuple(spread)
