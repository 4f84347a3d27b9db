"""The least sum over numbers that meet rows, found from corner to corner in integers.

A state is a tuple (rows, base, den). rows are lists of integers: one for each row to be met, then the
costs, then what lacks. Each has the parts of the numbers asked for, of one number more for each row to
be met (what lacks there at first), and behind them the right side; base tells which number each row
gives. All are to be divided by den, which is above 0.
"""

from neverjammed.fractions import common_den, reduced, times


def least_sum(costs, rows, rights):
    """A tuple (value, numbers, prices).

    numbers are from 0 on, such that for each row the sum of part * number is its right one, and that of
    cost * number, the value, is the least there is. prices are one for each row, such that the sums of
    price * part over the rows are at most the costs, and that of price * right is just the value.
    All are FRACTIONS, the rights from 0 on; there have to be numbers that meet the rows, and a least sum.
    """
    many = len(costs)
    scales, tall, steep = _scales_of(rows), _tall_of(rows, rights), common_den(costs)
    state = _first_state(costs, rows, rights)
    state = _led_down(state, -1, many)
    state = _without_lacks(state, many)
    state = _led_down(state, -2, many)
    lines, _, den = state
    prices = [reduced(-lines[-2][many + at] * scale, den * steep) for at, scale in enumerate(scales)]
    return reduced(-lines[-2][-1], den * steep * tall), _numbers_of(state, many, tall), tuple(prices)


def numbers_or_prices(many, rows, rights):
    """A tuple (numbers, prices): so many numbers that meet the rows, or prices which show that there are none.

    There always is just one of both, and None stands for the other. numbers are as in least_sum; prices
    are one for each row, such that the sums of price * part over the rows are at most 0, but that of
    price * right is above 0. All are FRACTIONS, the rights from 0 on.
    """
    state = _led_down(_first_state(((0, 1),) * many, rows, rights), -1, many)
    lines, _, den = state
    if lines[-1][-1] == 0:
        return _numbers_of(state, many, _tall_of(rows, rights)), None
    scales = _scales_of(rows)
    return None, tuple([
        reduced((den - lines[-1][many + at]) * scale, den) for at, scale in enumerate(scales)
    ])


def _scales_of(rows):
    """For each row the integer that makes all of its parts integers."""
    return [common_den(row) for row in rows]


def _tall_of(rows, rights):
    """The integer that makes all right sides integers, besides the one of each row."""
    return common_den([times((scale, 1), right) for scale, right in zip(_scales_of(rows), rights)])


def _numbers_of(state, many, tall):
    """The numbers asked for that a state tells."""
    lines, base, den = state
    numbers = [(0, 1)] * many
    for line, index in zip(lines, base):
        if index < many:
            numbers[index] = reduced(line[-1], den * tall)
    return tuple(numbers)


def _first_state(costs, rows, rights):
    """The state in which each row tells only what lacks."""
    many = len(costs)
    scales, tall = _scales_of(rows), _tall_of(rows, rights)
    lines = []
    for at, row in enumerate(rows):
        lacks = [0] * len(rows)
        lacks[at] = 1
        right = scales[at] * tall * rights[at][0] // rights[at][1]
        lines.append(_whole(row, scales[at]) + lacks + [right])
    sums = [-sum([line[column] for line in lines]) for column in range(many)]
    lack = sums + [0] * len(rows) + [-sum([line[-1] for line in lines])]
    cost = _whole(costs, common_den(costs)) + [0] * (len(rows) + 1)
    return lines + [cost, lack], tuple(range(many, many + len(rows))), 1


def _whole(parts, scale):
    return [num * (scale // den) for num, den in parts]


def _led_down(state, goal, many):
    """The state in which none of the numbers asked for can make the goal row fall any more."""
    column = _falling(state, goal, many)
    while column is not None:
        state = _turned(state, _tightest(state, column), column)
        column = _falling(state, goal, many)
    return state


def _falling(state, goal, many):
    # Always the least one, here and where rows are as tight: so no state comes again (Bland's rule).
    line = state[0][goal]
    for column in range(many):
        if line[column] < 0:
            return column
    return None


def _tightest(state, column):
    """The row whose number is the first one to come to 0 if that of the column grows."""
    lines, base, _ = state
    best = None
    for at in range(len(base)):
        if lines[at][column] > 0 and (best is None or _is_tighter(state, column, at, best)):
            best = at
    return best


def _is_tighter(state, column, at, other):
    lines, base, _ = state
    one = lines[at][-1] * lines[other][column]
    two = lines[other][-1] * lines[at][column]
    return one < two or (one == two and base[at] < base[other])


def _without_lacks(state, many):
    """The state in which what lacks, 0 by now, is told only by rows that bind no other number."""
    for at in range(len(state[1])):
        lines, base, _ = state
        bound = [column for column in range(many) if lines[at][column] != 0]
        if base[at] >= many and bound:
            state = _turned(state, at, bound[0])
    return state


def _turned(state, at, column):
    """The state in which the row tells the number of the column."""
    lines, base, den = state
    lead = lines[at]
    if lead[column] < 0:
        lead = [-part for part in lead]
    top = lead[column]
    turned = [
        lead if other == at else [
            # All are minors of the first rows, so that den divides them.
            (part * top - line[column] * leading) // den for part, leading in zip(line, lead)
        ]
        for other, line in enumerate(lines)
    ]
    return turned, base[:at] + (column,) + base[at + 1:], top
