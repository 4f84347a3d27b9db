"""Shares of a flow that are better than others on a lot of links."""

from neverjammed.forms import is_shares
from neverjammed.fractions import ONE, ZERO, compared, less
from neverjammed.nets import load_of_shares
from neverjammed.simplex import least_sum


def better_or_prices(net, flow, shares, lot):
    """A tuple (better, prices): shares that are BETTER on the lot, or PRICES by which these are CHEAPEST.

    There always is just one of both, and None stands for the other. What is better is so by the most in
    the sum over all links of the lot, so that it is EFFICIENT.
    """
    ways = len(net[1][flow][1])
    costs = (ZERO,) * ways + ((-1, 1),) * len(lot)
    least, numbers, prices = _least_within(net, flow, shares, lot, costs)
    if least != ZERO:
        return numbers[:ways], None
    return None, tuple([
        less(ZERO, prices[lot.index(link)]) if link in lot else ZERO for link in range(len(net[0]))
    ])


def is_efficient(net, flow, shares, lot):
    """Whether no shares are BETTER on the lot."""
    return better_shares(net, flow, shares, lot) is None


def better_shares(net, flow, shares, lot):
    """Shares that are BETTER on the lot, None if there are none."""
    return better_or_prices(net, flow, shares, lot)[0]


def is_better(net, flow, shares, lot, thing):
    """Whether thing is shares that are BETTER on the lot."""
    if not is_shares(net, flow, thing):
        return False
    signs = [
        compared(load_of_shares(net, flow, thing, link), load_of_shares(net, flow, shares, link))
        for link in lot
    ]
    return 1 not in signs and -1 in signs


def efficient_shares(net, flow, shares, lot):
    """EFFICIENT shares with no more load on any link of the lot: shares themselves if they are."""
    better = better_shares(net, flow, shares, lot)
    return shares if better is None else better


def lessened(net, flow, shares, lot):
    """The links of the lot on which some shares have less load that are BETTER on it."""
    return tuple([
        link for link in lot
        if least_load(net, flow, shares, lot, link) != load_of_shares(net, flow, shares, link)
    ])


def least_load(net, flow, shares, lot, link):
    """The least load on a link of the lot of shares with no more load on any link of it."""
    costs = tuple([way[link] for way in net[1][flow][1]]) + (ZERO,) * len(lot)
    return _least_within(net, flow, shares, lot, costs)[0]


def _least_within(net, flow, shares, lot, costs):
    """The least sum over all shares, and what they leave of the loads of these on the lot."""
    demand, ways = net[1][flow]
    rows = [tuple([way[link] for way in ways]) + _left(lot, link) for link in lot]
    rows.append((ONE,) * len(ways) + (ZERO,) * len(lot))
    rights = [load_of_shares(net, flow, shares, link) for link in lot] + [demand]
    return least_sum(costs, rows, rights)


def _left(lot, link):
    return tuple([ONE if other == link else ZERO for other in lot])
