"""The least sum over numbers that meet rows, found from corner to corner in integers.

A state is a tuple (rows, base, den). rows are lists of integers: one for each row to be met, then the
costs, then what lacks. Each has the parts of the numbers asked for, of one number more for each row to
be met (what lacks there at first), and behind them the right side; base tells which number each row
gives. All are to be divided by den, which is above 0.
"""

from neverjammed.fractions import common_den, reduced, times


def least_sum(costs, rows, rights):
    """A tuple (value, numbers, prices).

    numbers are from 0 on, such that for each row the sum of part * number is its right one, and that of
    cost * number, the value, is the least there is. prices are one for each row, such that the sums of
    price * part over the rows are at most the costs, and that of price * right is just the value.
    All are FRACTIONS, the rights from 0 on; there have to be numbers that meet the rows, and a least sum.
    """
    many = len(costs)
    scales = [common_den(row) for row in rows]
    tall = common_den([times((scale, 1), right) for scale, right in zip(scales, rights)])
    steep = common_den(costs)
    state = _first_state(costs, rows, rights, scales, tall, steep)
    state = _led_down(state, -1, many)
    state = _without_lacks(state, many)
    lines, base, den = _led_down(state, -2, many)
    numbers = [(0, 1)] * many
    for line, index in zip(lines, base):
        if index < many:
            numbers[index] = reduced(line[-1], den * tall)
    prices = [reduced(-lines[-2][many + at] * scale, den * steep) for at, scale in enumerate(scales)]
    return reduced(-lines[-2][-1], den * steep * tall), tuple(numbers), tuple(prices)


def _first_state(costs, rows, rights, scales, tall, steep):
    """The state in which each row tells only what lacks."""
    many = len(costs)
    lines = []
    for at, row in enumerate(rows):
        lacks = [0] * len(rows)
        lacks[at] = 1
        right = scales[at] * tall * rights[at][0] // rights[at][1]
        lines.append(_whole(row, scales[at]) + lacks + [right])
    sums = [-sum([line[column] for line in lines]) for column in range(many)]
    lack = sums + [0] * len(rows) + [-sum([line[-1] for line in lines])]
    cost = _whole(costs, steep) + [0] * (len(rows) + 1)
    return lines + [cost, lack], tuple(range(many, many + len(rows))), 1


def _whole(parts, scale):
    return [num * (scale // den) for num, den in parts]


def _led_down(state, goal, many):
    """The state in which none of the numbers asked for can make the goal row fall any more."""
    column = _falling(state, goal, many)
    while column is not None:
        state = _turned(state, _tightest(state, column), column)
        column = _falling(state, goal, many)
    return state


def _falling(state, goal, many):
    # Always the least one, here and where rows are as tight: so no state comes again (Bland's rule).
    line = state[0][goal]
    for column in range(many):
        if line[column] < 0:
            return column
    return None


def _tightest(state, column):
    """The row whose number is the first one to come to 0 if that of the column grows."""
    lines, base, _ = state
    best = None
    for at in range(len(base)):
        if lines[at][column] > 0 and (best is None or _is_tighter(state, column, at, best)):
            best = at
    return best


def _is_tighter(state, column, at, other):
    lines, base, _ = state
    one = lines[at][-1] * lines[other][column]
    two = lines[other][-1] * lines[at][column]
    return one < two or (one == two and base[at] < base[other])


def _without_lacks(state, many):
    """The state in which what lacks, 0 by now, is told only by rows that bind no other number."""
    for at in range(len(state[1])):
        lines, base, _ = state
        bound = [column for column in range(many) if lines[at][column] != 0]
        if base[at] >= many and bound:
            state = _turned(state, at, bound[0])
    return state


def _turned(state, at, column):
    """The state in which the row tells the number of the column."""
    lines, base, den = state
    lead = lines[at]
    if lead[column] < 0:
        lead = [-part for part in lead]
    top = lead[column]
    turned = [
        lead if other == at else [
            # All are minors of the first rows, so that den divides them.
            (part * top - line[column] * leading) // den for part, leading in zip(line, lead)
        ]
        for other, line in enumerate(lines)
    ]
    return turned, base[:at] + (column,) + base[at + 1:], top
