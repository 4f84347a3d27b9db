"""Papers which show that a lot of links is locked: a row of prices for each flow."""

from neverjammed.lots import without
from neverjammed.nets import full_links
from neverjammed.prices import are_prices_for, prices_for
from neverjammed.shares import better_shares


def lock_paper(net, split, lot):
    """A LOCK PAPER of the lot at a split, None if the lot is not LOCKED."""
    if without(lot, full_links(net, split)) != ():
        return None
    paper = [prices_for(net, flow, shares, lot) for flow, shares in enumerate(split)]
    return None if None in paper else tuple(paper)


def is_lock_paper(net, split, lot, thing):
    """Whether thing is a LOCK PAPER of the lot at a split."""
    if without(lot, full_links(net, split)) != ():
        return False
    if not isinstance(thing, tuple) or len(thing) != len(split):
        return False
    return all([
        are_prices_for(net, flow, split[flow], lot, prices) for flow, prices in enumerate(thing)
    ])


def unlocking(net, split, lot):
    """None if the lot is LOCKED, else its first link that is not FULL, or a flow with better shares."""
    loose = without(lot, full_links(net, split))
    if loose != ():
        return loose[:1]
    for flow, shares in enumerate(split):
        better = better_shares(net, flow, shares, lot)
        if better is not None:
            return flow, better
    return None
