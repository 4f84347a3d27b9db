"""Orders and waves in which the flows may take over, so that no link ever bears too much."""

from neverjammed.forms import is_integer, is_lot
from neverjammed.lots import all_of, parts_of, together, without
from neverjammed.nets import is_let
from neverjammed.turns import is_clean, midst


def let_lots(net, one, other):
    """The ascending list of the LOTS of flows whose MIDST of the turn is let."""
    lots = parts_of(all_of(net[1]))
    return [lot for lot in lots if is_let(net, midst(net, one, other, lot))]


def clean_order(net, one, other):
    """The least ORDER of the turn, None if there is none."""
    counts = _counts_of_orders(net, one, other)
    if counts.get((), 0) == 0:
        return None
    order = ()
    for _ in net[1]:
        ahead = [
            flow for flow in without(all_of(net[1]), order)
            if counts.get(together(order, (flow,)), 0) > 0
        ]
        order = order + (ahead[0],)
    return order


def orders_many(net, one, other):
    """How many ORDERS of the turn there are."""
    return _counts_of_orders(net, one, other).get((), 0)


def is_order(net, one, other, thing):
    """Whether thing is an ORDER of the turn."""
    if not isinstance(thing, tuple) or not _has_each_once(net, thing):
        return False
    return all([
        is_let(net, midst(net, one, other, thing[:size])) for size in range(len(thing) + 1)
    ])


def waves_of(net, one, other):
    """WAVES of the turn, as few lots as there are, None if there are none."""
    lets = {lot: True for lot in let_lots(net, one, other)}
    everyone = all_of(net[1])
    waves = {}
    # From the greatest lots down, so that what is left to do is known of all greater ones.
    for lot in sorted(lets, key=len, reverse=True):
        found = [()] if lot == everyone else [
            (wave,) + waves[together(lot, wave)] for wave in parts_of(without(everyone, lot))[1:]
            if together(lot, wave) in waves and _can_take_over(lets, lot, wave)
        ]
        if found:
            waves[lot] = min(found, key=len)
    return waves.get(())


def are_waves(net, one, other, thing):
    """Whether thing is WAVES of the turn."""
    if not isinstance(thing, tuple):
        return False
    if not all([is_lot(len(net[1]), lot) and lot != () for lot in thing]):
        return False
    if not _has_each_once(net, [flow for lot in thing for flow in lot]):
        return False
    here = one
    for lot in thing:
        # The flows of a wave take over in any order if the turn by it is clean.
        there = midst(net, here, other, lot)
        if not is_clean(net, here, there):
            return False
        here = there
    return True


def _has_each_once(net, flows):
    if not all([is_integer(flow) for flow in flows]):
        return False
    return sorted(flows) == list(range(len(net[1])))


def _counts_of_orders(net, one, other):
    """For each let lot of flows that have taken over, in how many orders the others can follow."""
    everyone = all_of(net[1])
    counts = {}
    for lot in sorted(let_lots(net, one, other), key=len, reverse=True):
        counts[lot] = 1 if lot == everyone else sum([
            counts.get(together(lot, (flow,)), 0) for flow in without(everyone, lot)
        ])
    return counts


def _can_take_over(lets, lot, wave):
    return all([together(lot, part) in lets for part in parts_of(wave)])
