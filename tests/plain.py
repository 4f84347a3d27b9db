"""The definitions of the document once more, by other means: what the tests judge results and values by."""

from fractions import Fraction
from functools import lru_cache
from itertools import combinations

from tests.helper import fits, loads, lots, midsts, mixed, number


def plainly_integer(thing):
    return type(thing) is int


def plainly_fraction(thing, least=None):
    if type(thing) is not tuple or [type(part) for part in thing] != [int, int]:
        return False
    if thing[1] < 1 or str(Fraction(*thing)) != (f"{thing[0]}/{thing[1]}" if thing[1] > 1 else str(thing[0])):
        return False
    return least is None or Fraction(*thing) >= least


def plainly_row(thing, many, least=None):
    return type(thing) is tuple and len(thing) == many and all(plainly_fraction(part, least) for part in thing)


def plainly_net(thing):
    if type(thing) is not tuple or [type(part) for part in thing] != [tuple, tuple]:
        return False
    for flow in thing[1]:
        if type(flow) is not tuple or len(flow) != 2 or not plainly_fraction(flow[0], 0):
            return False
        if type(flow[1]) is not tuple or flow[1] == ():
            return False
        if not all(plainly_row(way, len(thing[0]), 0) for way in flow[1]):
            return False
    return plainly_row(thing[0], len(thing[0]), 0)


def plainly_shares(net, flow, thing):
    demand, ways = net[1][flow]
    return plainly_row(thing, len(ways), 0) and sum(Fraction(*part) for part in thing) == Fraction(*demand)


def plainly_split(net, thing):
    if type(thing) is not tuple or len(thing) != len(net[1]):
        return False
    return all(plainly_shares(net, flow, thing[flow]) for flow in range(len(thing)))


def plainly_prices(net, lot, thing):
    if not plainly_row(thing, len(net[0]), 0):
        return False
    return [link for link, price in enumerate(thing) if Fraction(*price) != 0] == list(lot)


def plainly_costs(net, thing):
    if type(thing) is not tuple or len(thing) != len(net[1]):
        return False
    return all(plainly_row(thing[flow], len(net[1][flow][1])) for flow in range(len(thing)))


def plainly_lot(many, thing):
    return type(thing) is tuple and all(plainly_integer(index) for index in thing) and thing in lots(many)


# Turns, courses and roads, midst by midst.

def plainly_clean(net, one, other):
    return all(fits(net, split) for split in midsts(one, other))


def plainly_course(net, thing):
    if type(thing) is not tuple or thing == () or not all(plainly_split(net, split) for split in thing):
        return False
    return all(plainly_clean(net, here, there) for here, there in zip(thing, thing[1:] + thing[-1:]))


def told(road):
    """All splits of a road, one behind the other."""
    course = [road[0]]
    for there, many in road[1]:
        here = course[-1]
        course += [mixed(here, there, Fraction(part, many)) for part in range(1, many + 1)]
    return tuple(course)


def plainly_road(net, thing):
    if type(thing) is not tuple or len(thing) != 2 or type(thing[1]) is not tuple:
        return False
    for stretch in thing[1]:
        if type(stretch) is not tuple or len(stretch) != 2:
            return False
        if not plainly_split(net, stretch[0]) or not plainly_integer(stretch[1]) or stretch[1] < 1:
            return False
    return plainly_split(net, thing[0]) and plainly_course(net, told(thing))


# Shares and prices, by all corners of the shares.

def loads_of_shares(net, flow, shares):
    ways = net[1][flow][1]
    return [
        sum((number(share) * number(way[link]) for share, way in zip(shares, ways)), Fraction(0))
        for link in range(len(net[0]))
    ]


def solved(rows, rights):
    """The only numbers that meet as many rows, None if there are none or others, too."""
    table = [list(row) + [right] for row, right in zip(rows, rights)]
    many = len(table)
    for at in range(many):
        pivot = next((k for k in range(at, many) if table[k][at] != 0), None)
        if pivot is None:
            return None
        table[at], table[pivot] = table[pivot], table[at]
        table[at] = [part / table[at][at] for part in table[at]]
        for k in range(many):
            if k != at and table[k][at] != 0:
                factor = table[k][at]
                table[k] = [part - factor * lead for part, lead in zip(table[k], table[at])]
    return [row[-1] for row in table]


@lru_cache(maxsize=None)
def corners(net, flow, shares, lot):
    """The corners of the shares of a flow with no more load than these on any link of the lot."""
    demand, ways = net[1][flow]
    many = len(ways)
    borne = loads_of_shares(net, flow, shares)
    # Each row is to be at most its right side.
    rows = [([Fraction(-1 if k == way else 0) for k in range(many)], Fraction(0)) for way in range(many)]
    rows += [([number(way[link]) for way in ways], borne[link]) for link in lot]
    found = []
    for tight in combinations(rows, many - 1):
        point = solved([[Fraction(1)] * many] + [row for row, _ in tight], [number(demand)] + [b for _, b in tight])
        if point is not None and point not in found:
            if all(sum(a * x for a, x in zip(row, point)) <= right for row, right in rows):
                found.append(point)
    return tuple(tuple((x.numerator, x.denominator) for x in point) for point in found)


def least_of_corners(net, flow, shares, lot):
    """For each link of the lot the least load at a corner, and the least sum of loads on the lot."""
    rows = [loads_of_shares(net, flow, corner) for corner in corners(net, flow, shares, lot)]
    return {link: min(row[link] for row in rows) for link in lot}, min(sum(row[link] for link in lot) for row in rows)


def plainly_efficient(net, flow, shares, lot):
    borne = loads_of_shares(net, flow, shares)
    return least_of_corners(net, flow, shares, lot)[1] == sum(borne[link] for link in lot)


def plainly_lessened(net, flow, shares, lot):
    borne = loads_of_shares(net, flow, shares)
    least, _ = least_of_corners(net, flow, shares, lot)
    return tuple(link for link in lot if least[link] < borne[link])


def plainly_better(net, flow, shares, lot, thing):
    if not plainly_shares(net, flow, thing):
        return False
    pairs = list(zip(loads_of_shares(net, flow, thing), loads_of_shares(net, flow, shares)))
    return all(pairs[k][0] <= pairs[k][1] for k in lot) and any(pairs[k][0] < pairs[k][1] for k in lot)


def costs_of_ways(net, flow, prices):
    return [
        sum((number(price) * number(taking) for price, taking in zip(prices, way)), Fraction(0))
        for way in net[1][flow][1]
    ]


def plainly_cheapest(net, flow, shares, prices):
    costs = costs_of_ways(net, flow, prices)
    return all(share[0] == 0 or cost <= other for share, cost in zip(shares, costs) for other in costs)


def plainly_prices_for(net, flow, shares, lot, thing):
    return plainly_prices(net, lot, thing) and plainly_cheapest(net, flow, shares, thing)


# Locks and bars.

def plainly_full(net, split):
    return tuple(link for link, load in enumerate(loads(net, split)) if load == number(net[0][link]))


def plainly_locked(net, split, lot):
    if not set(lot) <= set(plainly_full(net, split)):
        return False
    return all(plainly_efficient(net, flow, split[flow], lot) for flow in range(len(split)))


@lru_cache(maxsize=None)
def all_thinned(net, split):
    found = [plainly_full(net, split)]
    while True:
        out = [link for flow in range(len(split)) for link in plainly_lessened(net, flow, split[flow], found[-1])]
        left = tuple(link for link in found[-1] if link not in out)
        if left == found[-1]:
            return tuple(found)
        found.append(left)


def plainly_thinned(net, split):
    return list(all_thinned(net, split))


def plainly_agree(net, one, other, lot):
    return all(
        loads_of_shares(net, flow, one[flow])[link] == loads_of_shares(net, flow, other[flow])[link]
        for flow in range(len(one)) for link in lot
    )


def plainly_lock_paper(net, split, lot, thing):
    if not set(lot) <= set(plainly_full(net, split)):
        return False
    if type(thing) is not tuple or len(thing) != len(split):
        return False
    return all(plainly_prices_for(net, flow, split[flow], lot, thing[flow]) for flow in range(len(split)))


def plainly_bar(net, one, other, thing):
    if type(thing) is not tuple or len(thing) != 3 or not plainly_integer(thing[0]) or thing[0] not in (0, 1):
        return False
    which, lot, paper = thing
    if not plainly_lot(len(net[0]), lot) or plainly_agree(net, one, other, lot):
        return False
    return plainly_lock_paper(net, (one, other)[which], lot, paper)


# Papers of jams, of costs and of none, added up item by item.

def plainly_jam_sums(net, one, other, count, paper):
    """The LOADS of a paper, and the sum of its rooms."""
    rooms, flows = net
    loads_at_ends, costs = Fraction(0), {}
    for (turn, link, lot), part in paper.items():
        for flow, (_, ways) in enumerate(flows):
            split = turn + 1 if flow in lot else turn
            if split in (0, count):
                loads_at_ends += number(part) * loads_of_shares(net, flow, (one if split == 0 else other)[flow])[link]
                continue
            for way, takings in enumerate(ways):
                key = split, flow, way
                costs[key] = costs.get(key, Fraction(0)) + number(part) * number(takings[link])
    least = Fraction(0)
    for split, flow in {(split, flow) for split, flow, _ in costs}:
        demand, ways = flows[flow]
        least += number(demand) * min(costs[split, flow, way] for way in range(len(ways)))
    return loads_at_ends + least, sum((number(part) * number(rooms[key[1]]) for key, part in paper.items()), Fraction(0))


def plainly_jam_paper(net, one, other, count, thing):
    if type(thing) is not dict:
        return False
    for key, part in thing.items():
        if type(key) is not tuple or len(key) != 3 or not plainly_lot(len(net[1]), key[2]):
            return False
        if not plainly_integer(key[0]) or not 0 <= key[0] <= count - 1:
            return False
        if not plainly_integer(key[1]) or not 0 <= key[1] <= len(net[0]) - 1:
            return False
        if not plainly_fraction(part) or Fraction(*part) <= 0:
            return False
    borne, room = plainly_jam_sums(net, one, other, count, thing)
    return borne > room


def plain_cost(split, costs):
    return sum((number(a) * number(b) for row, shares in zip(costs, split) for a, b in zip(row, shares)), Fraction(0))


def plain_sum_of_paper(net, split, costs, paper):
    prices, tolls = paper
    total = Fraction(0)
    for flow, (demand, ways) in enumerate(net[1]):
        rows = []
        for way, takings in enumerate(ways):
            extra = [(number(p) + number(t)) * number(a) for p, t, a in zip(prices, tolls[flow], takings)]
            rows.append(number(costs[flow][way]) + sum(extra))
        total += number(demand) * min(rows)
        borne = loads_of_shares(net, flow, split[flow])
        total -= sum(number(toll) * load for toll, load in zip(tolls[flow], borne))
    return total - sum(number(price) * number(room) for price, room in zip(prices, net[0]))


def plainly_cost_paper(net, split, costs, least, thing):
    if type(thing) is not tuple or len(thing) != 2 or not plainly_row(thing[0], len(net[0]), 0):
        return False
    if type(thing[1]) is not tuple or len(thing[1]) != len(net[1]):
        return False
    lock = plainly_thinned(net, split)[-1]
    for row in thing[1]:
        if not plainly_row(row, len(net[0])):
            return False
        if any(toll[0] != 0 and link not in lock for link, toll in enumerate(row)):
            return False
    return plain_sum_of_paper(net, split, costs, thing) >= number(least)


def plainly_none_paper(net, thing):
    if not plainly_row(thing, len(net[0]), 0):
        return False
    needed = sum(number(demand) * min(costs_of_ways(net, flow, thing)) for flow, (demand, _) in enumerate(net[1]))
    return needed > sum(number(part) * number(room) for part, room in zip(thing, net[0]))


def plainly_joined(net, one, other):
    lock = plainly_thinned(net, one)[-1]
    return lock == plainly_thinned(net, other)[-1] and plainly_agree(net, one, other, lock)
