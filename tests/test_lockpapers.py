"""[22]: papers of locks, and what is shown where a lot is not locked."""

import random
import unittest

from neverjammed.lockpapers import is_lock_paper, lock_paper, unlocking
from neverjammed.locks import is_locked, lock_of
from tests.helper import (
    Case, H, I, NOTHING, NO_FLOWS, NO_LINKS, ODD_VALUES, TWO, Z, cases, long_shares, lots, number, some_chain, spoiled,
    tight_cases,
)
from tests.plain import (
    plainly_better, plainly_efficient, plainly_full, plainly_lock_paper, plainly_locked,
)

LEFT, RIGHT, SPARE = (I, Z, Z), (Z, I, Z), (Z, Z, I)
HERE = ((I, Z), (Z, I))
LOCKED = ((I, I, H), ((I, (LEFT, RIGHT)), (I, (LEFT, RIGHT))))


def all_splits():
    found = [(net, split) for net, splits in tight_cases(120) for split in splits]
    return found + [(net, split) for net, splits in cases(40, True) for split in splits[:1]]


class LockPapersTest(Case):

    def test_by_hand(self):
        for lot, paper, told in [
            ((0, 1), ((I, I, Z),) * 2, True), ((0, 1), ((I, H, Z),) * 2, False), ((0, 1), ((I, I, Z), (TWO, TWO, Z)), True),
            ((0, 1), ((I, TWO, Z), (TWO, I, Z)), True), ((0, 1), ((TWO, I, Z), (TWO, I, Z)), False),
            ((0, 1), ((I, TWO, Z), (I, TWO, Z)), False), ((), ((Z, Z, Z),) * 2, True), ((), ((I, I, Z),) * 2, False),
            ((0,), ((I, Z, Z),) * 2, False), ((0, 1), ((I, I, Z),), False), ((0, 1), ((I, I, Z),) * 3, False),
            ((0, 1, 2), ((I, I, I),) * 2, False), ((2,), ((Z, Z, I),) * 2, False), ((0, 1), ((I, I, I),) * 2, False),
            ((0, 1), ((I, I),) * 2, False), ((0, 1), [(I, I, Z)] * 2, False), ((0, 1), ([I, I, Z],) * 2, False),
            ((0, 1), ((1, 1, 0),) * 2, False), ((0, 1), (((True, 1), I, Z),) * 2, False), ((0, 1), None, False), ((), (), False),
            ((0, 1), (((-1, 1), (-1, 1), Z),) * 2, False), ((0, 1), ((I, I, Z), (I, I, (-1, 1))), False),
        ]:
            self.gives(told, is_lock_paper, LOCKED, HERE, lot, paper)
        for lot in lots(3):
            self.assertEqual(lock_paper(LOCKED, HERE, lot) is None, lot not in [(), (0, 1)])
        self.gives(((Z, Z, Z),) * 2, lock_paper, LOCKED, HERE, ())

    def test_unlocking_by_hand(self):
        self.gives(None, unlocking, LOCKED, HERE, (0, 1))
        self.gives(None, unlocking, LOCKED, HERE, ())
        for lot in [(2,), (0, 2), (1, 2), (0, 1, 2)]:
            self.gives((2,), unlocking, LOCKED, HERE, lot)
        self.gives((0, (Z, I)), unlocking, LOCKED, HERE, (0,))
        self.gives((1, (I, Z)), unlocking, LOCKED, HERE, (1,))
        wide = ((TWO, TWO, I, TWO), ((I, ((I, I, I, I),)),))
        self.gives((0,), unlocking, wide, ((I,),), (0, 1, 2))
        self.gives((1,), unlocking, wide, ((I,),), (1, 2, 3))
        self.gives((3,), unlocking, wide, ((I,),), (2, 3))
        self.gives(None, unlocking, wide, ((I,),), (2,))
        # The least of several flows that are not efficient, and a link that is not full ahead of any flow.
        flows = ((I, ((Z, I),)),) + ((I, ((I, Z), (Z, Z))),) * 3
        net, split = ((TWO, TWO), flows), ((I,), (Z, I), (I, Z), (I, Z))
        self.gives((2, (Z, I)), unlocking, net, split, (0,))
        self.gives((1,), unlocking, net, split, (0, 1))

    def test_nets_with_nothing(self):
        self.gives(((), ()), lock_paper, NO_LINKS, ((H, H), (H,)), ())
        self.gives(None, unlocking, NO_LINKS, ((H, H), (H,)), ())
        self.gives(True, is_lock_paper, NO_LINKS, ((H, H), (H,)), (), ((), ()))
        self.gives(False, is_lock_paper, NO_LINKS, ((H, H), (H,)), (), ())
        self.gives((), lock_paper, NOTHING, (), ())
        for lot in lots(3):
            slack = [link for link in lot if link != 1]
            self.gives(None if slack else (), lock_paper, NO_FLOWS, (), lot)
            self.gives((slack[0],) if slack else None, unlocking, NO_FLOWS, (), lot)
            self.gives(not slack, is_lock_paper, NO_FLOWS, (), lot, ())
            self.gives(False, is_lock_paper, NO_FLOWS, (), lot, ((),))

    def test_papers_just_of_locked_lots(self):
        seen = {}
        for net, split in all_splits():
            for lot in lots(len(net[0])):
                told = plainly_locked(net, split, lot)
                paper, why = lock_paper(net, split, lot), unlocking(net, split, lot)
                self.gives(paper, lock_paper, net, split, lot)
                self.gives(why, unlocking, net, split, lot)
                self.assertEqual((paper is not None, why is None), (told, told))
                seen["papers" if told else len(why), lot == ()] = True
                if told:
                    self.assertTrue(plainly_lock_paper(net, split, lot, paper))
                    for other in lots(len(net[0])):
                        is_so = plainly_lock_paper(net, split, other, paper)
                        self.gives(is_so, is_lock_paper, net, split, other, paper)
                        self.assertTrue(split == () or is_so == (other == lot))
                    continue
                slack = [link for link in lot if link not in plainly_full(net, split)]
                if slack:
                    self.assertEqual(why, (slack[0],))
                    continue
                flow, better = why
                self.assertTrue(plainly_better(net, flow, split[flow], lot, better))
                self.assertTrue(all(plainly_efficient(net, k, split[k], lot) for k in range(flow)))
        self.assertTrue({("papers", False), ("papers", True), (1, False), (2, False)} <= set(seen))

    def test_papers_of_any_value(self):
        seen = {True: 0, False: 0}
        for lot in lots(3):
            for thing in ODD_VALUES:
                self.gives(False, is_lock_paper, LOCKED, HERE, lot, thing)
                self.gives(False, is_lock_paper, LOCKED, HERE, lot, (thing, thing))
        for lot in [(), (0,), (0, 1), (0, 1, 2)]:
            for paper in [((I, I, Z), ((3, 2), H, Z)), ((Z, Z, Z), (Z, Z, Z)), ((I, I, I), (I, I, I))]:
                for thing in spoiled(paper):
                    told = plainly_lock_paper(LOCKED, HERE, lot, thing)
                    seen[told] += 1
                    self.gives(told, is_lock_paper, LOCKED, HERE, lot, thing)
        self.assertGreater(min(seen.values()), 5)

    def test_papers_with_one_price_otherwise(self):
        chance = random.Random(22)
        seen = {True: 0, False: 0}
        for net, split in all_splits():
            lot = lock_of(net, split)
            paper = lock_paper(net, split, lot)
            for flow in range(len(split)):
                for link in range(len(net[0])):
                    for price in [Z, (-1, 1), H, (10 ** 59 + 1, 10 ** 59), TWO, (chance.randrange(1, 9), 11)]:
                        row = paper[flow][:link] + (price,) + paper[flow][link + 1:]
                        thing = paper[:flow] + (row,) + paper[flow + 1:]
                        told = plainly_lock_paper(net, split, lot, thing)
                        seen[told] += 1
                        self.gives(told, is_lock_paper, net, split, lot, thing)
        self.assertGreater(min(seen.values()), 50)

    def test_long_numbers_are_exact(self):
        chance = random.Random(59)
        near = (10 ** 59 - 1, 10 ** 59)
        for _ in range(5):
            shares = long_shares(chance, I, 2)
            split = (shares, shares[::-1])
            self.gives(True, is_locked, LOCKED, split, (0, 1))
            self.assertTrue(plainly_lock_paper(LOCKED, split, (0, 1), lock_paper(LOCKED, split, (0, 1))))
            self.gives(True, is_lock_paper, LOCKED, split, (0, 1), ((near, near, Z), (TWO, TWO, Z)))
            self.gives(False, is_lock_paper, LOCKED, split, (0, 1), ((I, near, Z), (TWO, TWO, Z)))
            self.assertEqual(number(near) + number((1, 10 ** 59)), 1)

    def test_chains(self):
        for many in range(1, 5):
            net, split = some_chain(many)
            for lot in lots(many):
                told = None if lot == () else lot[0]
                why = unlocking(net, split, lot)
                # The flow k comes free unless it takes its new place on a link of the lot.
                flows = [k for k in lot if k == 0 or k - 1 not in lot]
                self.assertEqual(None if why is None else why[0], min(flows) if told is not None else None)


if __name__ == "__main__":
    unittest.main()
