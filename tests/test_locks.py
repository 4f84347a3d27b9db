"""[21], with LOCKED and LOCK of [2], and [7]: against all lots gone through."""

import unittest
from fractions import Fraction
from itertools import product

from neverjammed.locks import is_locked, lock_of, locked_lots, thinned
from neverjammed.nets import full_links
from tests.helper import (
    Case, H, I, IDLE, NOTHING, NO_FLOWS, NO_LINKS, PAIR, TWO, Z, cases, fits, lots, mixed, some_chain, tight_cases,
)
from tests.plain import plainly_efficient, plainly_full, plainly_lessened, plainly_locked, plainly_thinned

LEFT, RIGHT, SPARE = (I, Z, Z), (Z, I, Z), (Z, Z, I)
HERE, THERE = ((I, Z), (Z, I)), ((Z, I), (I, Z))
LOCKED = ((I, I, H), ((I, (LEFT, RIGHT)), (I, (LEFT, RIGHT))))
WIDER = ((I, I, H), ((I, (LEFT, RIGHT, SPARE)), (I, (LEFT, RIGHT))))

# The other flow takes less of one link, so that only HERE is locked.
SMALL = ((I, I), ((I, ((I, Z), (Z, I))), (I, ((H, Z), (Z, I)))))


def all_splits():
    """Couples of a net and a let split, many of them locked."""
    found = [(net, split) for net, splits in tight_cases(150) for split in splits]
    return found + [(net, split) for net, splits in cases(40, True) for split in splits[:1]]


class LocksTest(Case):

    def test_by_hand(self):
        self.gives((0, 1), lock_of, LOCKED, HERE)
        self.gives([(), (0, 1)], locked_lots, LOCKED, HERE)
        self.gives([(0, 1)], thinned, LOCKED, HERE)
        for lot in lots(3):
            self.gives(lot in [(), (0, 1)], is_locked, LOCKED, HERE, lot)
        start = ((I, Z, Z), (Z, I))
        self.gives([(0, 1), (1,), ()], thinned, WIDER, start)
        self.gives((), lock_of, WIDER, start)
        self.gives([()], locked_lots, WIDER, start)
        self.gives([(1, 2), ()], thinned, WIDER, ((H, Z, H), (Z, I)))
        # An idle way sets all free, room alone on one link as well.
        idle = (LOCKED[0], (LOCKED[1][0], (I, (LEFT, RIGHT, (Z, Z, Z)))))
        self.gives((), lock_of, idle, ((I, Z), (Z, I, Z)))
        self.gives((), lock_of, ((I, (3, 2), H), LOCKED[1]), HERE)
        self.gives([(0,), ()], thinned, ((I, (3, 2), H), LOCKED[1]), HERE)

    def test_two_locks_beside(self):
        pair = ((I, (LEFT[:2] + (Z, Z), RIGHT[:2] + (Z, Z))),) * 2 + ((I, ((Z, Z, I, Z), (Z, Z, Z, I))),) * 2
        net = ((I,) * 4, pair)
        self.gives((0, 1, 2, 3), lock_of, net, HERE + HERE)
        self.gives([(), (0, 1), (0, 1, 2, 3), (2, 3)], locked_lots, net, HERE + HERE)
        wide = ((I, I, I, TWO), pair)
        self.gives((0, 1), lock_of, wide, HERE + HERE)
        self.gives([(0, 1, 2), (0, 1)], thinned, wide, HERE + HERE)
        self.gives([(), (0, 1)], locked_lots, wide, HERE + HERE)

    def test_prices_of_its_own_for_each_flow(self):
        self.gives((0, 1), lock_of, SMALL, HERE)
        self.gives((), lock_of, SMALL, THERE)
        self.gives([(1,), ()], thinned, SMALL, THERE)

    def test_nets_with_nothing(self):
        self.gives((), lock_of, NO_LINKS, ((H, H), (H,)))
        self.gives([()], thinned, NO_LINKS, ((H, H), (H,)))
        self.gives([()], locked_lots, NO_LINKS, ((H, H), (H,)))
        self.gives(True, is_locked, NO_LINKS, ((H, H), (H,)), ())
        self.gives((), lock_of, NOTHING, ())
        self.gives([()], locked_lots, NOTHING, ())
        # Without flows just the links with the room 0 are full.
        self.gives((1,), lock_of, NO_FLOWS, ())
        self.gives([(), (1,)], locked_lots, NO_FLOWS, ())
        self.gives([(1,)], thinned, NO_FLOWS, ())
        for lot in lots(3):
            self.gives(lot in [(), (1,)], is_locked, NO_FLOWS, (), lot)

    def test_links_with_the_room_0(self):
        net = ((Z, I, Z), ((I, ((Z, I, Z), (Z, H, Z), (I, Z, I))),))
        self.gives((0, 2), lock_of, net, ((I, Z, Z),))
        self.gives([(0, 1, 2), (0, 2)], thinned, net, ((I, Z, Z),))
        self.gives([(), (0,), (0, 2), (2,)], locked_lots, net, ((I, Z, Z),))
        for net, split in all_splits():
            for link, room in enumerate(net[0]):
                if room == Z:
                    self.assertTrue(is_locked(net, split, (link,)))
                    self.assertIn(link, lock_of(net, split))

    def test_all_links_full_and_locked(self):
        unit = tuple(tuple(I if k == link else Z for k in range(6)) for link in range(6))
        flows = tuple((I, (unit[k], unit[(k + 1) % 5], unit[5])) for k in range(5)) + ((H, (unit[5],)),)
        net = ((I,) * 5 + (H,), flows)
        split = ((I, Z, Z),) * 5 + ((H,),)
        self.gives((0, 1, 2, 3, 4, 5), lock_of, net, split)
        self.gives([(0, 1, 2, 3, 4, 5)], thinned, net, split)
        self.assertEqual([lot for lot in sorted(lots(6)) if is_locked(net, split, lot)], locked_lots(net, split))
        self.assertIn((5,), locked_lots(net, split))
        self.assertIn((0, 1, 2, 3, 4, 5), locked_lots(net, split))
        self.gives((), lock_of, ((I,) * 5 + (I,), flows), split)

    def test_flows_of_one_way_alone(self):
        net = ((TWO, I, I), ((I, ((I, Z, Z),)), (I, ((I, I, Z),)), (Z, ((Z, Z, I),))))
        self.gives((0, 1), lock_of, net, ((I,), (I,), (Z,)))
        self.gives([(), (0,), (0, 1), (1,)], locked_lots, net, ((I,), (I,), (Z,)))
        # Equal ways are as good as one.
        twice = (net[0], tuple((demand, ways * 2) for demand, ways in net[1]))
        self.gives((0, 1), lock_of, twice, ((H, H), (Z, I), (Z, Z)))

    def test_links_that_come_free_one_after_the_other(self):
        for many in range(1, 6):
            net, split = some_chain(many)
            self.gives([tuple(range(k, many)) for k in range(many + 1)], thinned, net, split)
            self.gives((), lock_of, net, split)
            self.gives([()], locked_lots, net, split)

    def test_against_all_lots(self):
        seen = {}
        for net, split in all_splits():
            locked = [lot for lot in sorted(lots(len(net[0]))) if plainly_locked(net, split, lot)]
            for lot in lots(len(net[0])):
                self.gives(lot in locked, is_locked, net, split, lot)
            self.gives(locked, locked_lots, net, split)
            self.assertIn((), locked)
            # All links in some locked lot are a locked lot, too.
            lock = tuple(sorted({link for lot in locked for link in lot}))
            self.assertIn(lock, locked)
            self.gives(lock, lock_of, net, split)
            rows = plainly_thinned(net, split)
            self.gives(rows, thinned, net, split)
            self.assertEqual(rows[-1], lock)
            seen[len(rows)] = True
            seen["locked", len(locked)] = True
        self.assertTrue({1, 2, 3, ("locked", 1), ("locked", 2), ("locked", 4)} <= set(seen), seen)

    def test_thinned_list_by_list(self):
        for net, split in all_splits():
            rows = thinned(net, split)
            self.assertEqual(rows[0], plainly_full(net, split))
            for lot, left in zip(rows, rows[1:] + rows[-1:]):
                out = {k for flow, shares in enumerate(split) for k in plainly_lessened(net, flow, shares, lot)}
                self.assertEqual(left, tuple(link for link in lot if link not in out))
                self.assertEqual(left == lot, all(plainly_efficient(net, k, part, lot) for k, part in enumerate(split)))
            self.assertEqual(len(set(rows)), len(rows))

    def test_at_means_of_two_let_splits(self):
        # [7]: full just if at both, and the LOCK lies in both LOCKS.
        seen = {}
        for net, splits in [(SMALL, (HERE, THERE))] + tight_cases(200) + cases(20, True):
            for one, other in product(splits, repeat=2):
                for part in [Fraction(1, 2), Fraction(1, 10 ** 12)]:
                    mean = mixed(one, other, part)
                    both = set(full_links(net, one)) & set(full_links(net, other))
                    self.assertEqual(set(full_links(net, mean)), both)
                    lock = set(lock_of(net, mean))
                    locks = set(lock_of(net, one)), set(lock_of(net, other))
                    self.assertTrue(lock <= locks[0] and lock <= locks[1])
                    seen[lock == locks[0], lock == locks[1], lock == set()] = True
        self.assertTrue({(True, True, False), (True, True, True), (False, True, True), (True, False, True)} <= set(seen))

    def test_lists_that_are_returned_may_be_changed(self):
        for function, told in [(thinned, [(0, 1), (1,), ()]), (locked_lots, [()])]:
            split = ((I, Z, Z), (Z, I))
            function(WIDER, split).clear()
            function(WIDER, split).append(None)
            self.gives(told, function, WIDER, split)
        locked_lots(LOCKED, HERE).pop()
        self.gives((0, 1), lock_of, LOCKED, HERE)
        self.gives([(), (0, 1)], locked_lots, LOCKED, HERE)

    def test_all_nets(self):
        for net in [(((3, 2), (3, 2)), PAIR[1]), (((3, 2), TWO), PAIR[1]), ((Z, (1, 3)), IDLE[1]), NO_LINKS, NO_FLOWS, NOTHING]:
            split = tuple((demand,) + (Z,) * (len(ways) - 1) for demand, ways in net[1])
            self.assertTrue(fits(net, split))
            for lot in lots(len(net[0])):
                self.gives(plainly_locked(net, split, lot), is_locked, net, split, lot)
            self.gives(plainly_thinned(net, split), thinned, net, split)


if __name__ == "__main__":
    unittest.main()
