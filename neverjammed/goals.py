"""The GOAL of a split by costs, and the COST PAPERS that show it."""

from neverjammed.fractions import ZERO, added, least_of, less, times
from neverjammed.limits import (
    all_ways, demand_limits, least_within, load_limits, room_limits, split_of,
)
from neverjammed.lots import all_of, without
from neverjammed.nets import load_of


def goal_of(net, split, costs, lock):
    """A tuple (goal, found, paper) of a let split with this LOCK.

    goal is the least cost of all let splits that agree with it on its LOCK, found one of these, and
    paper a COST PAPER that adds up to the goal.
    """
    ways = all_ways(net)
    loose = without(all_of(net[0]), lock)
    # The links of the LOCK need no limits of their own: they are full if all flows agree on them.
    limits = demand_limits(net, ways) + room_limits(net, ways, loose, True) + load_limits(net, ways, split, lock)
    goal, numbers, prices = least_within(ways, limits, [costs[flow][way] for flow, way in ways])
    paper = _paper_of(net, loose, lock, prices[len(net[1]):])
    return goal, split_of(net, ways, numbers), paper


def costs_by_paper(net, costs, paper):
    """For each flow what its ways cost with prices and tolls."""
    return tuple([
        tuple([_cost_by_paper(net, costs, paper, flow, way) for way in range(len(costs[flow]))])
        for flow in range(len(costs))
    ])


def added_up(net, split, costs, paper):
    """What a COST PAPER of the split adds up to."""
    prices, tolls = paper
    rows = costs_by_paper(net, costs, paper)
    least = [times(flow[0], least_of(row)) for flow, row in zip(net[1], rows)]
    rooms = [times(price, room) for price, room in zip(prices, net[0])]
    loads = [
        times(toll, load_of(net, split, flow, link))
        for flow, row in enumerate(tolls) for link, toll in enumerate(row)
    ]
    return less(added(least), added(rooms + loads))


def _cost_by_paper(net, costs, paper, flow, way):
    prices, tolls = paper
    takings = net[1][flow][1][way]
    parts = [
        times(added((price, toll)), taking)
        for price, toll, taking in zip(prices, tolls[flow], takings)
    ]
    return added([costs[flow][way]] + parts)


def _paper_of(net, loose, lock, prices):
    """The COST PAPER by the prices of the limits behind those of the demands."""
    links = all_of(net[0])
    ahead = {link: less(ZERO, price) for link, price in zip(loose, prices)}
    tolls = [less(ZERO, price) for price in prices[len(loose):]]
    rows = [tolls[flow * len(lock):(flow + 1) * len(lock)] for flow in range(len(net[1]))]
    return tuple([ahead.get(link, ZERO) for link in links]), tuple([
        tuple([row[lock.index(link)] if link in lock else ZERO for link in links]) for row in rows
    ])
