"""Limits that splits keep, and splits that keep them.

ways are a list of tuples (flow, way): those that may have a share above 0. A limit is a tuple
(parts, right, is_most): the sum of part * share over these ways is right, or at most right.
"""

from neverjammed.fractions import ONE, ZERO, reduced
from neverjammed.nets import load_of, mean_of
from neverjammed.simplex import least_sum, numbers_or_prices


def all_ways(net):
    """All ways of all flows."""
    return [(flow, way) for flow, row in enumerate(net[1]) for way in range(len(row[1]))]


def demand_limits(net, ways):
    """For each flow: its shares come to its demand."""
    return [
        (tuple([ONE if place[0] == flow else ZERO for place in ways]), net[1][flow][0], False)
        for flow in range(len(net[1]))
    ]


def room_limits(net, ways, links, is_most):
    """For each of these links: the load on it is its room, or at most its room."""
    return [
        (tuple([net[1][flow][1][way][link] for flow, way in ways]), net[0][link], is_most)
        for link in links
    ]


def load_limits(net, ways, split, lot):
    """For each flow and each link of the lot: its load is that in the split."""
    return [
        (load_parts(net, ways, flow, link), load_of(net, split, flow, link), False)
        for flow in range(len(net[1])) for link in lot
    ]


def load_parts(net, ways, flow, link):
    """What one unit on each way brings to the load of just this flow on a link."""
    return tuple([
        net[1][flow][1][way][link] if other == flow else ZERO for other, way in ways
    ])


def least_within(ways, limits, costs):
    """A tuple (least, numbers, prices) of the simplex: the least sum of cost * share within the limits.

    Ahead of all other numbers are the shares of the ways; prices are one for each limit. Some shares have
    to keep the limits.
    """
    rows, rights = _rows_of(limits)
    more = len(_loose(limits))
    return least_sum(tuple(costs) + (ZERO,) * more, rows, rights)


def shares_or_prices(ways, limits):
    """A tuple (numbers, prices) of the simplex: shares of the ways ahead of all others, or prices of the limits."""
    rows, rights = _rows_of(limits)
    return numbers_or_prices(len(ways) + len(_loose(limits)), rows, rights)


def split_of(net, ways, numbers):
    """The split in which the ways have these numbers for their shares, all other ways 0."""
    shares = dict(zip(ways, numbers))
    return tuple([
        tuple([shares.get((flow, way), ZERO) for way in range(len(net[1][flow][1]))])
        for flow in range(len(net[1]))
    ])


def inmost_split(net, ways, limits):
    """A split within the limits in which as many shares are above 0, and as many limits have room left, as can be.

    Each split within the limits can be told as a part of a mean that comes to this one. Some split has to
    keep the limits.
    """
    rows, rights = _rows_of(limits)
    many = len(ways) + len(_loose(limits))
    splits = []
    idle = list(range(many))
    is_more = True
    while is_more:
        costs = tuple([(-1, 1) if at in idle else ZERO for at in range(many)])
        numbers = least_sum(costs, rows, rights)[1]
        splits.append(split_of(net, ways, numbers))
        left = [at for at in idle if numbers[at] == ZERO]
        # What can't be made greater all together can't be made greater alone.
        is_more = left != [] and left != idle
        idle = left
    return mean_of(splits, (reduced(1, len(splits)),) * len(splits))


def _loose(limits):
    return [at for at, limit in enumerate(limits) if limit[2]]


def _rows_of(limits):
    """The rows and right sides of the simplex: behind the shares stands what is left of each most."""
    loose = _loose(limits)
    rows = [
        limit[0] + tuple([ONE if other == at else ZERO for other in loose])
        for at, limit in enumerate(limits)
    ]
    return rows, [limit[1] for limit in limits]
