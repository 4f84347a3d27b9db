"""Prices of links, by which ways cost what they take."""

from neverjammed.forms import is_prices
from neverjammed.fractions import ZERO, added, compared, least_of, times
from neverjammed.shares import better_or_prices


def way_cost(net, flow, way, prices):
    """What a way costs: the sum of price * taking."""
    takings = net[1][flow][1][way]
    return added([times(price, taking) for price, taking in zip(prices, takings)])


def least_cost(net, flow, prices):
    """The least cost of a way of the flow."""
    return least_of(_way_costs(net, flow, prices))


def cheapest_ways(net, flow, prices):
    """The ascending tuple of the ways that cost the least."""
    costs = _way_costs(net, flow, prices)
    least = least_of(costs)
    return tuple([way for way, cost in enumerate(costs) if cost == least])


def is_cheapest(net, flow, shares, prices):
    """Whether only ways that cost the least have shares above 0."""
    cheapest = cheapest_ways(net, flow, prices)
    return all([way in cheapest for way, share in enumerate(shares) if compared(share, ZERO) > 0])


def prices_for(net, flow, shares, lot):
    """PRICES of the lot by which shares are CHEAPEST, None if there are none."""
    return better_or_prices(net, flow, shares, lot)[1]


def are_prices_for(net, flow, shares, lot, thing):
    """Whether thing is PRICES of the lot by which shares are CHEAPEST."""
    return is_prices(net, lot, thing) and is_cheapest(net, flow, shares, thing)


def _way_costs(net, flow, prices):
    return [way_cost(net, flow, way, prices) for way in range(len(net[1][flow][1]))]
