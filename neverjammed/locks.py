"""Locked lots of links, and the greatest one of a split, its LOCK."""

from neverjammed.lots import parts_of, without
from neverjammed.nets import full_links
from neverjammed.shares import is_efficient, lessened


def lock_of(net, split):
    """The LOCK of a split."""
    return thinned(net, split)[-1]


def is_locked(net, split, lot):
    """Whether a LOT of links is LOCKED at a split."""
    if without(lot, full_links(net, split)) != ():
        return False
    return all([is_efficient(net, flow, shares, lot) for flow, shares in enumerate(split)])


def locked_lots(net, split):
    """The ascending list of all LOTS of links that are LOCKED at a split."""
    return [lot for lot in parts_of(lock_of(net, split)) if is_locked(net, split, lot)]


def thinned(net, split):
    """The LOTS from all FULL links to the LOCK, each without what comes free on the one ahead."""
    lots = [full_links(net, split)]
    loose = _loose_links(net, split, lots[-1])
    while loose:
        lots.append(without(lots[-1], loose))
        loose = _loose_links(net, split, lots[-1])
    return lots


def _loose_links(net, split, lot):
    """The links of the lot on which some flow has less load by better shares."""
    return [link for flow, shares in enumerate(split) for link in lessened(net, flow, shares, lot)]
