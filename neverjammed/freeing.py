"""Lots of links and of flows that set two splits free to be led to one another."""

from neverjammed.fractions import ONE, ZERO, added
from neverjammed.joining import are_joined, road_between
from neverjammed.lots import least_lots
from neverjammed.nets import with_room, with_way


def wider_net(net, lot, amount):
    """The net in which the rooms of the links of the lot are greater by the amount."""
    for link in lot:
        net = with_room(net, link, added((net[0][link], amount)))
    return net


def idle_net(net, lot):
    """The net in which each flow of the lot has one way more, which takes nothing."""
    for flow in lot:
        net = with_way(net, flow, (ZERO,) * len(net[0]))
    return net


def idle_split(net, split, lot):
    """The split of idle_net in which nothing goes by the ways that it has more."""
    return tuple([
        shares + (ZERO,) if flow in lot else shares for flow, shares in enumerate(split)
    ])


def frees_by_links(net, one, other, lot):
    """Whether two splits are JOINED with the links of the lot a little wider."""
    # All amounts are as good: the links are not full any more by any of them.
    return are_joined(wider_net(net, lot, ONE), one, other)


def frees_by_flows(net, one, other, lot):
    """Whether two splits are JOINED with an idle way more for each flow of the lot."""
    return are_joined(idle_net(net, lot), idle_split(net, one, lot), idle_split(net, other, lot))


def freeing_links(net, one, other):
    """The ascending list of the least LOTS of links that free two splits."""
    return least_lots(net[0], lambda lot: frees_by_links(net, one, other, lot))


def freeing_flows(net, one, other):
    """The ascending list of the least LOTS of flows that free two splits."""
    return least_lots(net[1], lambda lot: frees_by_flows(net, one, other, lot))


def road_with_wider(net, one, other, lot, amount):
    """A ROAD of wider_net from one split to the other, None if the lot does not free."""
    return road_between(wider_net(net, lot, amount), one, other)


def road_with_idle(net, one, other, lot):
    """A ROAD of idle_net from one split to the other, None if the lot does not free."""
    return road_between(idle_net(net, lot), idle_split(net, one, lot), idle_split(net, other, lot))
