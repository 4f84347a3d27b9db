"""The loads of splits on the links of a net, and nets made of other nets."""

from neverjammed.fractions import ZERO, added, compared, times


def load_of_shares(net, flow, shares, link):
    """The LOAD of any shares of a flow on a link."""
    ways = net[1][flow][1]
    return added([times(share, way[link]) for share, way in zip(shares, ways)])


def load_of(net, split, flow, link):
    """The LOAD of a flow's shares on a link."""
    return load_of_shares(net, flow, split[flow], link)


def loads_on(net, split):
    """The tuple of the LOADS of a split on all links."""
    return tuple([_load_on(net, split, link) for link in range(len(net[0]))])


def is_let(net, split):
    """Whether no load of a split is greater than the room of the link."""
    loads = loads_on(net, split)
    return all([compared(load, room) <= 0 for load, room in zip(loads, net[0])])


def full_links(net, split):
    """The LOT of the links on which the load of a split is just the room."""
    rooms = net[0]
    return tuple([link for link, load in enumerate(loads_on(net, split)) if load == rooms[link]])


def agree(net, one, other, lot):
    """Whether each flow has the same load in both splits on each link of the lot."""
    return all([
        load_of(net, one, flow, link) == load_of(net, other, flow, link)
        for flow in range(len(net[1])) for link in lot
    ])


def mean_of(splits, parts):
    """The split whose shares are the sums of part * share, whatever net it is of."""
    return tuple([
        _mean_shares([split[flow] for split in splits], parts) for flow in range(len(splits[0]))
    ])


def mean_split(net, splits, parts):
    """The split whose shares are the sums of part * share, the parts being 1 in sum."""
    return mean_of(splits, parts)


def with_room(net, link, room):
    """The net with another room of one link."""
    rooms, flows = net
    return _replaced(rooms, link, room), flows


def with_demand(net, flow, demand):
    """The net with another demand of one flow."""
    rooms, flows = net
    return rooms, _replaced(flows, flow, (demand, flows[flow][1]))


def with_way(net, flow, way):
    """The net with one way more of a flow, behind its others."""
    rooms, flows = net
    demand, ways = flows[flow]
    return rooms, _replaced(flows, flow, (demand, ways + (way,)))


def ordered_links(net, order):
    """The net whose link k is the link order[k] of this one."""
    rooms, flows = net
    return _in_order(rooms, order), tuple([
        (demand, tuple([_in_order(way, order) for way in ways])) for demand, ways in flows
    ])


def ordered_flows(net, order):
    """The net whose flow k is the flow order[k] of this one."""
    rooms, flows = net
    return rooms, _in_order(flows, order)


def net_beside(one, other):
    """The net of the links and flows of one, and behind them those of other."""
    ahead = (ZERO,) * len(one[0])
    behind = (ZERO,) * len(other[0])
    flows = [(demand, tuple([way + behind for way in ways])) for demand, ways in one[1]]
    others = [(demand, tuple([ahead + way for way in ways])) for demand, ways in other[1]]
    return one[0] + other[0], tuple(flows + others)


def _load_on(net, split, link):
    return added([load_of(net, split, flow, link) for flow in range(len(net[1]))])


def _mean_shares(rows, parts):
    return tuple([
        added([times(part, row[way]) for part, row in zip(parts, rows)])
        for way in range(len(rows[0]))
    ])


def _replaced(row, at, item):
    return row[:at] + (item,) + row[at + 1:]


def _in_order(row, order):
    return tuple([row[at] for at in order])
