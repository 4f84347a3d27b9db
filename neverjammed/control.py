"""What may be ordered while earlier orders are still under way."""

from neverjammed.errors import Jammed, NoFlow, NoLink, NoOrder, Wrong
from neverjammed.forms import is_integer, is_net, is_split
from neverjammed.fractions import added, compared, greatest_of
from neverjammed.lots import least_lots
from neverjammed.nets import is_let, load_of


class Control:
    """Orders of splits, and which of them each flow may still stand at."""

    def __init__(self, net, split):
        if not is_net(net):
            raise Wrong(0)
        if not is_split(net, split) or not is_let(net, split):
            raise Wrong(1)
        self._net = net
        self._orders = [split]
        # The loads of each order are reckoned once; its shares may stay PENDING for many calls.
        self._loads = [_loads_of(net, split)]
        self._last = [0] * len(net[1])

    def __eq__(self, other):
        return (
            isinstance(other, Control) and self._net == other._net
            and self._orders == other._orders and self._last == other._last
        )

    def order(self, split):
        """Give the next order, and return its number: Jammed(link) if a link might bear too much."""
        if not is_split(self._net, split):
            raise Wrong(0)
        jam = self._first_jam(split, ())
        if jam is not None:
            raise Jammed(jam)
        self._orders.append(split)
        self._loads.append(_loads_of(self._net, split))
        return len(self._orders) - 1

    def can_order(self, split):
        """Whether any value is a SPLIT that order would let."""
        return is_split(self._net, split) and self._first_jam(split, ()) is None

    def heard(self, flow, number):
        """Say that a flow has taken over the order with this number."""
        self._check_flow(flow)
        if not is_integer(number) or not 0 <= number < len(self._orders):
            raise NoOrder(number)
        self._last[flow] = max(self._last[flow], number)

    def pending(self, flow):
        """The list of the tuples (number, shares) that are PENDING of a flow."""
        self._check_flow(flow)
        return [(number, self._orders[number][flow]) for number in self._pending_numbers(flow)]

    def worst_loads(self):
        """For each link the sum of the greatest loads of all flows."""
        return tuple([
            added([greatest_of(self._pending_loads(flow, link)) for flow in range(len(self._last))])
            for link in range(len(self._net[0]))
        ])

    def worst_numbers(self, link):
        """For each flow the least number with which its load on the link is greatest."""
        if not is_integer(link) or not 0 <= link < len(self._net[0]):
            raise NoLink(link)
        found = []
        for flow, last in enumerate(self._last):
            loads = self._pending_loads(flow, link)
            found.append(last + loads.index(greatest_of(loads)))
        return tuple(found)

    def may_stand(self, split):
        """Whether any value is a split in which each flow has shares that are PENDING."""
        if not is_split(self._net, split):
            return False
        return all([
            shares in [row[1] for row in self.pending(flow)] for flow, shares in enumerate(split)
        ])

    def sure_split(self):
        """The split in which all flows stand, None if some flow may stand otherwise."""
        split = self._orders[-1]
        for flow, shares in enumerate(split):
            if any([row[1] != shares for row in self.pending(flow)]):
                return None
        return split

    def must_hear(self, split):
        """The least LOTS of flows such that order would let the split if they were heard of the last order."""
        return least_lots(self._net[1], lambda lot: self._first_jam(split, lot) is None)

    def twin(self):
        """An independent Control in the same state."""
        other = Control(self._net, self._orders[0])
        other._orders = list(self._orders)
        other._loads = list(self._loads)
        other._last = list(self._last)
        return other

    def _check_flow(self, flow):
        if not is_integer(flow) or not 0 <= flow < len(self._last):
            raise NoFlow(flow)

    def _pending_numbers(self, flow):
        return list(range(self._last[flow], len(self._orders)))

    def _pending_loads(self, flow, link):
        return [self._loads[number][flow][link] for number in self._pending_numbers(flow)]

    def _first_jam(self, split, lot):
        """The least link that might bear too much with the split, if a lot of flows were heard of the last order."""
        loads = _loads_of(self._net, split)
        for link, room in enumerate(self._net[0]):
            worst = []
            for flow, row in enumerate(loads):
                pending = self._pending_loads(flow, link)
                worst.append(greatest_of((pending[-1:] if flow in lot else pending) + [row[link]]))
            if compared(added(worst), room) > 0:
                return link
        return None


def _loads_of(net, split):
    """For each flow the tuple of its loads on all links."""
    return tuple([
        tuple([load_of(net, split, flow, link) for link in range(len(net[0]))])
        for flow in range(len(net[1]))
    ])
