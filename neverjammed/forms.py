"""What any value is: each function tells it of its last argument."""

from math import gcd, lcm


def is_integer(thing):
    """Whether thing is an int that is neither True nor False."""
    return isinstance(thing, int) and not isinstance(thing, bool)


def is_fraction(thing):
    """Whether thing is a FRACTION, of either sign."""
    if not _is_row(thing, 2):
        return False
    num, den = thing
    return is_integer(num) and is_integer(den) and den > 0 and gcd(num, den) == 1


def is_net(thing):
    """Whether thing is a NET."""
    if not _is_row(thing, 2):
        return False
    rooms, flows = thing
    if not isinstance(rooms, tuple) or not isinstance(flows, tuple):
        return False
    if not are_from_zero(rooms, len(rooms)):
        return False
    return all([_is_flow(flow, len(rooms)) for flow in flows])


def is_shares(net, flow, thing):
    """Whether thing is SHARES of the flow with this index."""
    demand, ways = net[1][flow]
    return are_from_zero(thing, len(ways)) and _come_to(thing, demand)


def is_split(net, thing):
    """Whether thing is a SPLIT of the net, let or not."""
    if not _is_row(thing, len(net[1])):
        return False
    return all([is_shares(net, flow, shares) for flow, shares in enumerate(thing)])


def is_lot(many, thing):
    """Whether thing is a LOT of indexes below many."""
    if not isinstance(thing, tuple):
        return False
    last = -1
    for index in thing:
        if not is_integer(index) or not last < index < many:
            return False
        last = index
    return True


def is_prices(net, lot, thing):
    """Whether thing is PRICES of a LOT of links."""
    if not are_from_zero(thing, len(net[0])):
        return False
    return all([(price[0] > 0) == (link in lot) for link, price in enumerate(thing)])


def is_costs(net, thing):
    """Whether thing is COSTS: a FRACTION, of either sign, for each way of each flow."""
    flows = net[1]
    if not _is_row(thing, len(flows)):
        return False
    return all([are_fractions(row, len(flow[1])) for row, flow in zip(thing, flows)])


def are_fractions(thing, many):
    """Whether thing is a tuple of so many FRACTIONS, of either sign."""
    return _is_row(thing, many) and all([is_fraction(part) for part in thing])


def are_from_zero(thing, many):
    """Whether thing is a tuple of so many FRACTIONS from 0 on."""
    return are_fractions(thing, many) and all([part[0] >= 0 for part in thing])


def _is_row(thing, many):
    return isinstance(thing, tuple) and len(thing) == many


def _is_flow(thing, links):
    if not _is_row(thing, 2):
        return False
    demand, ways = thing
    if not is_fraction(demand) or demand[0] < 0:
        return False
    if not isinstance(ways, tuple) or not ways:
        return False
    return all([are_from_zero(way, links) for way in ways])


def _come_to(shares, demand):
    # Added in integers, as the module of fractions stands below this one.
    common = demand[1]
    for share in shares:
        common = lcm(common, share[1])
    total = sum([num * (common // den) for num, den in shares])
    return total == demand[0] * (common // demand[1])
