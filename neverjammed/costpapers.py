"""Papers of prices and tolls which show that no split in reach costs less."""

from neverjammed.forms import are_fractions, are_from_zero
from neverjammed.fractions import ZERO, compared
from neverjammed.goals import added_up, goal_of
from neverjammed.locks import lock_of


def sum_of_paper(net, split, costs, paper):
    """What a COST PAPER of the split adds up to."""
    return added_up(net, split, costs, paper)


def cost_paper(net, split, costs):
    """A COST PAPER of the split that adds up to its GOAL."""
    return goal_of(net, split, costs, lock_of(net, split))[2]


def is_cost_paper(net, split, costs, least, thing):
    """Whether thing is a COST PAPER of the split that adds up to least at least."""
    if not isinstance(thing, tuple) or len(thing) != 2:
        return False
    prices, tolls = thing
    links = len(net[0])
    if not are_from_zero(prices, links) or not isinstance(tolls, tuple) or len(tolls) != len(net[1]):
        return False
    if not all([are_fractions(row, links) for row in tolls]):
        return False
    lock = lock_of(net, split)
    if not all([toll == ZERO or link in lock for row in tolls for link, toll in enumerate(row)]):
        return False
    return compared(sum_of_paper(net, split, costs, thing), least) >= 0
