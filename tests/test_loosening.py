"""[23], and [8] on the courses that free full links."""

import random
import unittest
from fractions import Fraction

from neverjammed.courses import is_course, is_road
from neverjammed.loosening import even_parts, loosened
from neverjammed.nets import net_beside
from tests.helper import (
    Case, H, I, NOTHING, NO_FLOWS, NO_LINKS, TWO, Z, cases, fraction, loads, long_shares, mixed, number, some_chain,
    tight_cases,
)
from tests.plain import loads_of_shares, plainly_clean, plainly_course, plainly_full, plainly_road, plainly_thinned

FLOWS = ((I, ((I,), (Z,))), (I, ((I,), (Z,))))
HERE, THERE = ((I, Z), (Z, I)), ((Z, I), (I, Z))


def needed_parts(net, one, other):
    """The numbers of [23], by fractions: None if there is none."""
    rows = [[loads_of_shares(net, flow, split[flow]) for flow in range(len(split))] for split in (one, other)]
    needs = [Fraction(1)]
    for link, room in enumerate(net[0]):
        grown = sum(max(Fraction(0), b[link] - a[link]) for a, b in zip(*rows))
        lost = sum(max(Fraction(0), a[link] - b[link]) for a, b in zip(*rows))
        for most, split in [(grown, one), (lost, other)]:
            left = number(room) - loads(net, split)[link]
            if most > 0 and left == 0:
                return None
            if most > 0:
                needs.append(most / left)
    return -(-max(needs).numerator // max(needs).denominator)


class LooseningTest(Case):

    def holds(self, net, split):
        course = loosened(net, split)
        self.gives(course, loosened, net, split)
        lock = plainly_thinned(net, split)[-1]
        self.assertEqual(course[0], split)
        self.assertTrue(plainly_course(net, course))
        self.assertTrue(is_course(net, course))
        self.assertLessEqual(len(course) - 1, len(plainly_full(net, split)) - len(lock))
        self.assertEqual(plainly_full(net, course[-1]), lock)
        self.assertEqual(plainly_thinned(net, course[-1])[-1], lock)
        return len(course) - 1

    def test_by_hand(self):
        locked = ((I, I), ((I, ((I, Z), (Z, I))), (I, ((I, Z), (Z, I)))))
        self.gives((HERE,), loosened, locked, HERE)
        self.gives((((H, H), (H,)),), loosened, NO_LINKS, ((H, H), (H,)))
        self.gives(((),), loosened, NO_FLOWS, ())
        self.gives(((),), loosened, NOTHING, ())
        self.assertEqual(self.holds(((I, TWO), locked[1]), HERE), 1)
        self.assertEqual(self.holds(((TWO, TWO), locked[1]), HERE), 0)
        idle = ((I, I), ((I, ((I, Z), (Z, I))), (I, ((I, Z), (Z, I), (Z, Z)))))
        self.assertLessEqual(self.holds(idle, ((I, Z), (Z, I, Z))), 2)

    def test_links_that_come_free_one_after_the_other(self):
        for many in range(1, 7):
            self.assertEqual(self.holds(*some_chain(many)), many)
        # Beside links that are locked and stay so.
        net, split = some_chain(3)
        locked = (I, I), ((I, ((I, Z), (Z, I))), (I, ((I, Z), (Z, I))))
        self.assertEqual(self.holds(net_beside(net, locked), split + HERE), 3)
        self.assertEqual(self.holds(net_beside(locked, net), HERE + split), 3)

    def test_nothing_that_was_not_full_becomes_full(self):
        # The way that helps fills up another link if it is gone as far as it is clean, or whole.
        for room in [I, TWO, H, (1, 10 ** 9)]:
            net = ((I, room), ((I, ((I, Z), (Z, I))),))
            self.assertEqual(self.holds(net, ((I, Z),)), 1)

    def test_all_splits(self):
        seen = {}
        for net, splits in tight_cases(150) + cases(40, True):
            for split in splits:
                many = self.holds(net, split)
                seen[many, plainly_thinned(net, split)[-1] == ()] = True
        self.assertTrue({(0, True), (0, False), (1, True), (1, False), (2, True)} <= set(seen), seen)

    def test_means_with_long_numbers(self):
        chance = random.Random(23)
        for net, splits in tight_cases(40):
            for split in splits[:1]:
                other = splits[-1]
                self.holds(net, mixed(split, other, Fraction(chance.randrange(1, 10 ** 29), 10 ** 29)))
            # Room for just these shares.
            split = tuple(long_shares(chance, demand, len(ways)) for demand, ways in net[1])
            rooms = tuple(fraction(load) for load in loads(net, split))
            self.holds((rooms, net[1]), split)

    def test_even_parts_by_hand(self):
        for room, parts in [
            (I, None), ((3, 2), 2), (TWO, 1), ((4, 3), 3), ((7, 5), 3), ((5, 3), 2), ((9, 4), 1),
            ((500000001, 500000000), 500000000), ((999999999, 999999998), 999999998), ((10 ** 9 + 2, 10 ** 9), 5 * 10 ** 8),
            ((10 ** 9 + 3, 10 ** 9), 333333334),
        ]:
            self.gives(parts, even_parts, ((room,), FLOWS), HERE, THERE)
            self.gives(parts, even_parts, ((room,), FLOWS), THERE, HERE)
            self.gives(1, even_parts, ((room,), FLOWS), HERE, HERE)
        self.gives(1, even_parts, NO_LINKS, ((I, Z), (H,)), ((Z, I), (H,)))
        self.gives(1, even_parts, NO_FLOWS, (), ())
        self.gives(1, even_parts, NOTHING, (), ())

    def test_growth_and_loss(self):
        # On one link one flow alone grows, so that the other end is never too narrow.
        flows = ((I, ((I,), (Z,))),)
        for room in [I, (10 ** 9 + 1, 10 ** 9), TWO]:
            self.gives(1, even_parts, ((room,), flows), ((Z, I),), ((I, Z),))
            self.gives(1, even_parts, ((room,), flows), ((I, Z),), ((Z, I),))
        # A growth of 2 against a loss of 1: the load goes from 1 to 2.
        flows = ((TWO, ((I,), (Z,))), (I, ((I,), (Z,))))
        low, high = ((Z, TWO), (I, Z)), ((TWO, Z), (Z, I))
        for room, parts in [(TWO, None), ((5, 2), 2), ((9, 4), 4), ((3, 1), 1), ((14, 5), 2), ((201, 100), 100)]:
            self.gives(parts, even_parts, ((room,), flows), low, high)
            self.gives(parts, even_parts, ((room,), flows), high, low)
        # The growth tells where the loads at the ends are the same and the growth is the loss.
        flows = ((I, ((I, Z), (Z, I))), (I, ((I, Z), (Z, I))))
        for rooms, parts in [(((3, 2), (4, 3)), 3), (((4, 3), (3, 2)), 3), ((I, TWO), None), ((TWO, I), None), ((TWO, TWO), 1)]:
            self.gives(parts, even_parts, (rooms, flows), HERE, THERE)

    def test_even_parts_against_the_numbers(self):
        seen = {}
        for net, splits in cases(80, True) + tight_cases(100):
            for one in splits:
                for other in splits:
                    parts = needed_parts(net, one, other)
                    self.gives(parts, even_parts, net, one, other)
                    self.gives(parts, even_parts, net, other, one)
                    self.assertEqual(parts == 1, plainly_clean(net, one, other))
                    seen[parts if parts is None else min(parts, 3), one == other] = True
                    if parts is None:
                        for many in (1, 2, 10 ** 30):
                            self.assertFalse(is_road(net, (one, ((other, many),))))
                    elif parts < 20:
                        self.assertTrue(plainly_road(net, (one, ((other, parts),))))
                        self.assertFalse(plainly_road(net, (one, ((other, parts - 1),))))
        self.assertTrue({(None, False), (1, True), (1, False), (2, False), (3, False)} <= set(seen), seen)

    def test_rooms_scarcely_greater_than_needed(self):
        chance = random.Random(10)
        for net, (one, other, _) in cases(40, True):
            most = [max(a, b) for a, b in zip(loads(net, one), loads(net, other))]
            for tiny in [Fraction(1, 10 ** 9), Fraction(chance.randrange(1, 10 ** 9), 10 ** 50)]:
                wider = tuple(fraction(load + tiny) for load in most), net[1]
                parts = needed_parts(wider, one, other)
                self.gives(parts, even_parts, wider, one, other)
                self.assertTrue(is_road(wider, (one, ((other, parts),))))
                self.assertFalse(is_road(wider, (one, ((other, parts - 1),))))


if __name__ == "__main__":
    unittest.main()
