"""The least cost that a split can be led to, or only near to."""

from neverjammed.fractions import ONE, ZERO, added, compared, least_of, less, over, times
from neverjammed.goals import costs_by_paper, goal_of
from neverjammed.limits import all_ways, demand_limits, inmost_split, load_limits, room_limits
from neverjammed.locks import lock_of
from neverjammed.lots import all_of, without
from neverjammed.nets import mean_of


def cost_of(net, split, costs):
    """The COST of a split, let or not."""
    return added([
        times(cost, share) for shares, row in zip(split, costs) for share, cost in zip(shares, row)
    ])


def cheapest(net, split, costs):
    """A tuple (word, goal, found): whether the GOAL is "reached" or only "neared", and a split of this COST."""
    lock = lock_of(net, split)
    goal, _, paper = goal_of(net, split, costs, lock)
    found = _inmost_cheapest(net, split, costs, lock, paper)
    # They agree on the LOCK, so that they are joined if that of found is no greater.
    word = "reached" if lock_of(net, found) == lock else "neared"
    return word, goal, found


def near_split(net, split, costs, gap):
    """A split that is JOINED with the split, whose COST is less than the GOAL and gap together."""
    goal, found, _ = goal_of(net, split, costs, lock_of(net, split))
    above = less(cost_of(net, split, costs), goal)
    if compared(above, gap) < 0:
        return split
    # With a part of the split, however small, a mean keeps its LOCK: half of gap is left above the goal.
    part = over(gap, times((2, 1), above))
    return mean_of((split, found), (part, less(ONE, part)))


def _inmost_cheapest(net, split, costs, lock, paper):
    """One of the cheapest splits whose LOCK lies in the LOCKS of all others of them."""
    prices = paper[0]
    rows = costs_by_paper(net, costs, paper)
    # The cheapest ones are just those that use only the cheapest ways by the paper, and fill each link
    # that has a price.
    ways = [(flow, way) for flow, way in all_ways(net) if rows[flow][way] == least_of(rows[flow])]
    priced = tuple([link for link, price in enumerate(prices) if price != ZERO])
    others = without(all_of(net[0]), lock + priced)
    rooms = room_limits(net, ways, priced, False) + room_limits(net, ways, others, True)
    return inmost_split(net, ways, demand_limits(net, ways) + load_limits(net, ways, split, lock) + rooms)
