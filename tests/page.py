"""A page on which orders are kept once more, by all splits in which the flows may stand."""

from itertools import product

from tests.helper import fits, loads, lots, number
from tests.plain import loads_of_shares


class Page:
    """What a Control keeps, each question answered by going through all that may be so."""

    def __init__(self, net, split):
        self.net, self.orders, self.last = net, [split], [0] * len(net[1])

    def pending(self, flow, lot=()):
        first = len(self.orders) - 1 if flow in lot else self.last[flow]
        return [(k, self.orders[k][flow]) for k in range(first, len(self.orders))]

    def standing(self, lot=(), split=None):
        """All splits in which the flows may stand, with a new order, too, if it is handed in."""
        more = [] if split is None else [(len(self.orders), split)]
        rows = [self.pending(flow, lot) + [(k, one[flow]) for k, one in more] for flow in range(len(self.last))]
        return [tuple(shares for _, shares in choice) for choice in product(*rows)]

    def jam(self, split, lot=()):
        """The least link that may come to bear more than its room, None if there is none."""
        bad = [one for one in self.standing(lot, split) if not fits(self.net, one)]
        over = [
            link for one in bad for link, load in enumerate(loads(self.net, one)) if load > number(self.net[0][link])
        ]
        return min(over) if over else None

    def order(self, split):
        self.orders.append(split)
        return len(self.orders) - 1

    def heard(self, flow, numbered):
        self.last[flow] = max(self.last[flow], numbered)

    def worst_loads(self):
        rows = [loads(self.net, one) for one in self.standing()]
        return [max(row[link] for row in rows) for link in range(len(self.net[0]))]

    def worst_numbers(self, link):
        found = []
        for flow in range(len(self.last)):
            rows = {k: loads_of_shares(self.net, flow, shares)[link] for k, shares in self.pending(flow)}
            found.append(min(k for k in rows if rows[k] == max(rows.values())))
        return tuple(found)

    def sure(self):
        splits = set(self.standing())
        return splits.pop() if len(splits) == 1 else None

    def must_hear(self, split):
        found = [lot for lot in lots(len(self.last)) if self.jam(split, lot) is None]
        return sorted(lot for lot in found if not any(set(other) < set(lot) for other in found))
