"""Let splits, INNER ones among them, or a paper which shows that there are none."""

from neverjammed.errors import NoneLet
from neverjammed.forms import are_from_zero
from neverjammed.fractions import ZERO, added, compared, less, times
from neverjammed.limits import all_ways, demand_limits, inmost_split, room_limits, shares_or_prices, split_of
from neverjammed.locks import lock_of
from neverjammed.lots import all_of
from neverjammed.prices import least_cost


def let_split(net):
    """A let split: NoneLet(paper) if there is none."""
    ways = all_ways(net)
    numbers, prices = shares_or_prices(ways, let_limits(net))
    if numbers is None:
        raise NoneLet(tuple([less(ZERO, price) for price in prices[len(net[1]):]]))
    return split_of(net, ways, numbers)


def let_limits(net):
    """The limits that all let splits keep: the demands, and behind them the rooms."""
    ways = all_ways(net)
    return demand_limits(net, ways) + room_limits(net, ways, all_of(net[0]), True)


def inner_split(net):
    """An INNER split: NoneLet(paper) if no split is let."""
    let_split(net)
    return inmost_split(net, all_ways(net), let_limits(net))


def need_of(net):
    """The NEED, the LOCK of all INNER splits: NoneLet(paper) if no split is let."""
    return lock_of(net, inner_split(net))


def is_inner(net, split):
    """Whether a let split is INNER."""
    return lock_of(net, split) == need_of(net)


def is_none_paper(net, thing):
    """Whether thing is a NONE PAPER: by its numbers, the least that all flows cost is more than all room."""
    rooms, flows = net
    if not are_from_zero(thing, len(rooms)):
        return False
    costs = [times(row[0], least_cost(net, flow, thing)) for flow, row in enumerate(flows)]
    return compared(added(costs), added([times(part, room) for part, room in zip(thing, rooms)])) > 0
