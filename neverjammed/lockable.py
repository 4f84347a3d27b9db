"""Lots of links that can be locked, and whether all let splits are joined."""

from neverjammed.errors import NoneLet, TooMany
from neverjammed.fractions import ONE, ZERO, less
from neverjammed.inner import let_limits, let_split, need_of
from neverjammed.limits import (
    all_ways, demand_limits, least_within, load_parts, room_limits, shares_or_prices, split_of,
)
from neverjammed.lots import all_of, parts_of, without
from neverjammed.nets import with_demand
from neverjammed.shares import is_efficient

MOST_WAYS = 100


def cheapest_lots(net, flow, lot):
    """The greatest LOTS of ways of a flow of which all together cost the least by some PRICES of the lot."""
    found = []
    for part in sorted(parts_of(all_of(net[1][flow][1]))[1:], key=len, reverse=True):
        if not any([without(part, other) == () for other in found]) and _cost_least(net, flow, part, lot):
            found.append(part)
    return sorted(found)


def split_locking(net, lot):
    """A let split at which the lot is LOCKED, None if there is none."""
    if not _is_any_let(net):
        return None
    return _split_by_choices(net, lot, _choices(net, lot))


def lockable_lots(net):
    """The ascending list of all LOTS of links that are LOCKED at some let split."""
    if not _is_any_let(net):
        return []
    rows = [(lot, _choices(net, lot)) for lot in parts_of(all_of(net[0]))]
    return [lot for lot, choices in rows if _split_by_choices(net, lot, choices) is not None]


def all_joined(net):
    """Whether all let splits are JOINED with one another."""
    lots = lockable_lots(net)
    if not lots:
        return True
    need = need_of(net)
    if any([without(lot, need) != () for lot in lots]):
        return False
    return all([_has_one_load(net, flow, link) for flow in range(len(net[1])) for link in need])


def _is_any_let(net):
    try:
        let_split(net)
    except NoneLet:
        return False
    return True


def _cost_least(net, flow, part, lot):
    # Shares that use just these ways are EFFICIENT exactly if all of them cost the least by some PRICES.
    shares = tuple([ONE if way in part else ZERO for way in range(len(net[1][flow][1]))])
    return is_efficient(with_demand(net, flow, (len(part), 1)), flow, shares, lot)


def _choices(net, lot):
    """All choices of one of cheapest_lots for each flow: TooMany(100) if there are more.

    A flow without a demand has no share above 0, so that it may as well choose all of its ways.
    """
    choices = [()]
    for flow, (demand, ways) in enumerate(net[1]):
        lots = [all_of(ways)] if demand == ZERO else cheapest_lots(net, flow, lot)
        choices = [choice + (part,) for choice in choices for part in lots]
        if len(choices) > MOST_WAYS:
            raise TooMany(MOST_WAYS)
    return choices


def _split_by_choices(net, lot, choices):
    """A let split at which the lot is full and some choice has all shares above 0, None if there is none."""
    for choice in choices:
        ways = [(flow, way) for flow, part in enumerate(choice) for way in part]
        rooms = room_limits(net, ways, lot, False)
        others = room_limits(net, ways, without(all_of(net[0]), lot), True)
        numbers = shares_or_prices(ways, demand_limits(net, ways) + rooms + others)[0]
        if numbers is not None:
            return split_of(net, ways, numbers)
    return None


def _has_one_load(net, flow, link):
    """Whether the flow has the same load on the link in all let splits."""
    ways, limits = all_ways(net), let_limits(net)
    parts = load_parts(net, ways, flow, link)
    least = least_within(ways, limits, parts)[0]
    greatest = least_within(ways, limits, [less(ZERO, part) for part in parts])[0]
    return less(ZERO, greatest) == least
