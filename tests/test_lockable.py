"""[29]: lots of ways that are cheapest together, lots of links that can be locked, and whether all splits are joined."""

import random
import unittest
from fractions import Fraction
from itertools import combinations, product

from neverjammed.errors import TooMany
from neverjammed.inner import inner_split
from neverjammed.joining import are_joined
from neverjammed.lockable import all_joined, cheapest_lots, lockable_lots, split_locking
from neverjammed.locks import is_locked
from neverjammed.nets import with_demand, with_room
from neverjammed.prices import cheapest_ways, prices_for
from tests.helper import (
    Case, H, I, NOTHING, NO_FLOWS, NO_LINKS, TWO, Z, cases, fits, fraction, let_grid, lots, mixed, number, odd_flows,
    some_chain, some_uneven, tight_cases,
)
from tests.plain import plainly_efficient, plainly_full, plainly_locked, plainly_prices, plainly_split

LEFT, RIGHT = (I, Z), (Z, I)
NET = ((I, I), ((I, (LEFT, RIGHT)), (I, (LEFT, RIGHT))))
# Ways on a bent row: each takes of one link what it leaves of the other, but less amid.
BENT = tuple(((k, 1), (j, 1)) for k, j in [(0, 6), (1, 3), (3, 1), (6, 0)])


def even(net, flow, lot):
    """A net in which the demand of the flow is as many units as the lot has ways, and shares of one each."""
    shares = tuple(I if way in lot else Z for way in range(len(net[1][flow][1])))
    return with_demand(net, flow, (len(lot), 1)), shares


def plainly_greatest(net, flow, lot):
    """The greatest lots of ways of a flow of which all are cheapest by some prices, by corners."""
    ways = range(len(net[1][flow][1]))
    found = []
    for size in reversed(range(1, len(ways) + 1)):
        for part in combinations(ways, size):
            if not any(set(part) <= set(other) for other in found):
                wide, shares = even(net, flow, part)
                if plainly_efficient(wide, flow, shares, lot):
                    found.append(part)
    return sorted(found)


def nets():
    """Tuples (net, splits) with some let splits of each net, of at most four links."""
    chance = random.Random(29)
    found = tight_cases(70) + cases(25, True)
    for _ in range(25):
        net, full, splits = some_uneven(chance)
        found.append((net, (full, *splits)))
    return found


class LockableTest(Case):

    def test_cheapest_lots_by_hand(self):
        both, net = (H, H), NET
        for ways, lot, told in [
            ((LEFT, RIGHT), (0, 1), [(0, 1)]), ((LEFT, RIGHT), (0,), [(1,)]), ((LEFT, RIGHT), (1,), [(0,)]),
            ((LEFT, RIGHT), (), [(0, 1)]), ((LEFT, both, RIGHT), (0, 1), [(0, 1, 2)]), ((LEFT, both, RIGHT), (0,), [(2,)]),
            ((LEFT, (H, (1, 3)), RIGHT), (0, 1), [(0, 1), (1, 2)]), ((LEFT, (H, (2, 3)), RIGHT), (0, 1), [(0, 2)]),
            ((LEFT, LEFT, RIGHT), (0, 1), [(0, 1, 2)]), ((LEFT, LEFT, RIGHT), (1,), [(0, 1)]), ((LEFT, LEFT), (0,), [(0, 1)]),
            ((LEFT, (Z, Z), RIGHT), (0, 1), [(1,)]), ((LEFT, (Z, Z), RIGHT), (0,), [(1, 2)]), (((Z, Z), (Z, Z)), (0, 1), [(0, 1)]),
            ((LEFT,), (0, 1), [(0,)]), (((I, I), (TWO, I)), (0, 1), [(0,)]), (((I, I), (TWO, I)), (1,), [(0, 1)]),
            (BENT, (0, 1), [(0, 1), (1, 2), (2, 3)]), (BENT, (0,), [(0,)]), (BENT, (1,), [(3,)]), (BENT, (), [(0, 1, 2, 3)]),
            ((BENT[0], BENT[1], (TWO, TWO), BENT[2]), (0, 1), [(0, 1), (1, 2, 3)]),
        ]:
            for demand in [I, Z, (7, 5)]:
                self.gives(told, cheapest_lots, (net[0], ((H, (RIGHT,)), (demand, ways))), 1, lot)
        # A way that is a mean of others, but for scarcely anything.
        for part, told in [(-1, [(0, 1), (1, 2)]), (0, [(0, 1, 2)]), (1, [(0, 2)])]:
            amid = fraction(Fraction(1, 2) + Fraction(part, 10 ** 8 + 7))
            self.gives(told, cheapest_lots, (net[0], ((I, (LEFT, (amid, H), RIGHT)),)), 0, (0, 1))
        self.gives([(0, 1)], cheapest_lots, NO_LINKS, 0, ())

    def test_cheapest_lots_are_just_the_greatest(self):
        many = {}
        flows = [(net, flow) for net, _ in odd_flows(60) + cases(12) for flow in range(len(net[1]))]
        flows += [(((I, I), ((I, ways),)), 0) for ways in [BENT, BENT[1:], BENT[::-1], (*BENT[:3], BENT[0])]]
        for net, flow in flows:
            for lot in lots(len(net[0])):
                told = cheapest_lots(net, flow, lot)
                self.gives(told, cheapest_lots, net, flow, lot)
                self.assertEqual(told, plainly_greatest(net, flow, lot))
                self.assertEqual(told, sorted(told))
                for part in told:
                    wide, shares = even(net, flow, part)
                    prices = prices_for(wide, flow, shares, lot)
                    self.assertTrue(plainly_prices(net, lot, prices))
                    self.assertEqual(cheapest_ways(net, flow, prices), part)
                many[len(told)] = True
        self.assertGreater(len(many), 2)

    def test_efficient_just_if_the_ways_lie_in_one_of_them(self):
        seen = {True: 0, False: 0}
        for net, rows in odd_flows(80):
            if net[1][0][0] == Z:
                continue
            for lot in lots(len(net[0])):
                told = cheapest_lots(net, 0, lot)
                for shares in rows:
                    used = {way for way, share in enumerate(shares) if share != Z}
                    is_so = any(used <= set(part) for part in told)
                    self.assertEqual(is_so, plainly_efficient(net, 0, shares, lot))
                    seen[is_so] += 1
        self.assertGreater(min(seen.values()), 100)

    def lockable(self, net, splits):
        """The lots that can be locked, each with a split, told by both functions alike."""
        told = lockable_lots(net)
        self.gives(told, lockable_lots, net)
        self.assertEqual(told, sorted(told))
        for lot in lots(len(net[0])):
            split = split_locking(net, lot)
            self.gives(split, split_locking, net, lot)
            self.assertEqual(split is not None, lot in told)
            if split is not None:
                self.assertTrue(plainly_split(net, split) and fits(net, split))
                self.assertTrue(plainly_locked(net, split, lot))
                self.gives(True, is_locked, net, split, lot)
            else:
                self.assertFalse([one for one in splits if set(lot) <= set(plainly_full(net, one)) and
                                  plainly_locked(net, one, lot)])
        return told

    def test_lockable_by_hand(self):
        self.assertEqual(self.lockable(NET, let_grid(NET)), [(), (0, 1)])
        wide = with_room(NET, 0, TWO)
        self.assertEqual(self.lockable(wide, let_grid(wide)), [()])
        small = ((I, I), ((I, (LEFT, RIGHT)), (I, ((H, Z), RIGHT))))
        self.assertEqual(self.lockable(small, let_grid(small)), [(), (0, 1)])
        net = ((I, Z), ((I, ((I, Z),)), (Z, (RIGHT, LEFT))))
        self.assertEqual(self.lockable(net, []), [(), (0,), (0, 1), (1,)])
        # Just full by one flow of one way: locked with the links that it does not take, too, if they are.
        net = ((I, H), ((I, ((I, Z),)), (H, ((Z, I), (I, I)))))
        self.assertEqual(self.lockable(net, []), [(), (0,), (0, 1), (1,)])
        for many in range(1, 5):
            net, split = some_chain(many)
            self.assertEqual(self.lockable(net, [split]), [()])

    def test_lockable_of_all_nets(self):
        many = {}
        for net, splits in nets():
            grid = let_grid(net) if len(net[1]) < 3 else []
            told = self.lockable(net, [*splits, *grid])
            many[len(told)] = True
        self.assertGreater(len(many), 4)

    def test_nothing_is_let(self):
        for net in [with_room(NET, 0, H), ((Z,), ((I, ((I,),)),)), with_room(NET, 1, (99, 100))]:
            self.gives([], lockable_lots, net)
            self.gives(True, all_joined, net)
            for lot in lots(len(net[0])):
                self.gives(None, split_locking, net, lot)

    def test_nets_with_nothing(self):
        self.gives([()], lockable_lots, NO_LINKS)
        self.gives([()], lockable_lots, NOTHING)
        self.gives([(), (1,)], lockable_lots, NO_FLOWS)
        for net in [NO_LINKS, NOTHING, NO_FLOWS]:
            self.gives(True, all_joined, net)
        self.gives((), split_locking, NO_FLOWS, (1,))
        self.gives(None, split_locking, NO_FLOWS, (0, 1))

    def refuses(self, function, *arguments):
        with self.assertRaises(TooMany) as caught:
            function(*arguments)
        self.assertEqual(caught.exception.most, 100)

    def test_just_a_hundred_ways_are_not_too_many(self):
        # Three lots of ways, two, and one alone; a flow without a demand takes none.
        three, two, one = (I, BENT), (I, BENT[:3]), (I, BENT[:2])
        idle = (Z, BENT)
        wide = ((24, 1), (24, 1))
        for flows, many in [
            ((three,) * 4, 81), ((three,) * 4 + (one,), 81), ((three,) * 4 + (idle,), 81), ((two,) * 5 + (three,), 96),
            ((three,) * 3 + (two,) * 2, 108), ((three,) * 4 + (two,), 162), ((two,) * 7, 128), ((three,) * 5, 243),
        ]:
            net = wide, flows
            self.assertEqual(sum(demand == Z for demand, _ in flows), flows.count(idle))
            self.assertEqual(len(list(product(*[cheapest_lots(net, k, (0, 1)) for k in range(len(flows)) if flows[k] != idle]))), many)
            if many > 100:
                self.refuses(split_locking, net, (0, 1))
                self.refuses(lockable_lots, net)
                self.refuses(all_joined, net)
                # Of the other lots of links there are few.
                self.assertIsNotNone(split_locking(net, ()))
                self.assertIsNone(split_locking(net, (0,)))
                none = ((Z, Z), flows)
                self.gives(None, split_locking, none, (0, 1))
                self.gives([], lockable_lots, none)
                self.gives(True, all_joined, none)
            else:
                self.assertEqual(split_locking(net, (0, 1)), None)
                self.gives([()], lockable_lots, net)
                self.gives(True, all_joined, net)

    def test_a_hundred_just(self):
        # Five ways of a flow in a row of four, and two such flows in rows of five: 4 * 5 * 5.
        def bent(many):
            return tuple(((k * k, 1), ((many - k) ** 2, 1)) for k in range(many + 1))
        flows = (I, bent(4)), (I, bent(5)), (I, bent(5))
        net = ((99, 1), (99, 1)), flows
        self.assertEqual([len(cheapest_lots(net, k, (0, 1))) for k in range(3)], [4, 5, 5])
        self.gives([()], lockable_lots, net)
        self.refuses(lockable_lots, (net[0], (*flows, (I, bent(2)))))
        self.gives([()], lockable_lots, (net[0], (*flows, (Z, bent(2)), (I, bent(1)))))

    def test_all_joined_by_hand(self):
        self.gives(False, all_joined, NET)
        self.gives(True, all_joined, with_room(NET, 0, TWO))
        self.gives(False, all_joined, ((I, I), ((I, (LEFT, RIGHT)), (I, ((H, Z), RIGHT)))))
        # Only the last two of more flows than links can exchange, or only one more than there are links.
        self.gives(False, all_joined, ((TWO, TWO), ((I, (LEFT,)), (I, (RIGHT,)), (I, (LEFT, RIGHT)), (I, (LEFT, RIGHT)))))
        self.gives(True, all_joined, ((TWO, TWO), ((I, (LEFT,)), (I, (RIGHT,)), (I, (LEFT,)), (I, (LEFT, RIGHT)))))
        # All is locked, but no load can be otherwise.
        self.gives(True, all_joined, ((I, H), ((I, ((I, Z),)), (H, (RIGHT, RIGHT)))))
        self.gives(True, all_joined, ((Z, I), ((H, (RIGHT, RIGHT, LEFT)),)))
        self.gives(True, all_joined, ((I, I), ((I, (LEFT, RIGHT)),)))
        self.gives(True, all_joined, ((H, H), ((I, (LEFT, RIGHT)),)))
        self.gives(False, all_joined, ((H, (1, 3)), ((H, (LEFT, RIGHT)), ((1, 3), (LEFT, RIGHT)))))
        self.gives(True, all_joined, ((H, (1, 3)), ((H, (LEFT, RIGHT)), (Z, (LEFT, RIGHT)))))

    def test_all_joined_of_all_nets(self):
        seen = {True: 0, False: 0}
        for net, splits in nets():
            told = all_joined(net)
            self.gives(told, all_joined, net)
            seen[told] += 1
            inner = inner_split(net)
            locking = [split_locking(net, lot) for lot in lockable_lots(net)]
            grid = let_grid(net) if len(net[1]) < 3 else []
            tried = [inner, *locking, *splits, *[mixed(inner, split, Fraction(1, 3)) for split in splits], *grid]
            if told:
                self.assertTrue(all(are_joined(net, inner, split) for split in tried))
            elif len(net[1]) < 3:
                # Some lot that can be locked, or a mean on the way to it, shows it.
                self.assertFalse(all(are_joined(net, inner, split) for split in tried))
        self.assertGreater(min(seen.values()), 15)

    def test_long_numbers(self):
        part = Fraction(10 ** 8 + 1, 10 ** 8 + 7)
        ways = (fraction(part), Z), (Z, fraction(1 / part))
        net = (fraction(part / 2), fraction(1 / part / 2)), ((I, ways),)
        self.assertEqual(self.lockable(net, [((H, H),)]), [(), (0, 1)])
        self.gives(True, all_joined, net)
        self.gives([()], lockable_lots, with_room(net, 0, fraction(number(net[0][0]) + Fraction(1, 10 ** 8))))


if __name__ == "__main__":
    unittest.main()
