"""[30], and what [10] says of lots that set free."""

import random
import unittest
from fractions import Fraction
from itertools import permutations, product

from neverjammed.courses import end_of, is_road, turns_of
from neverjammed.freeing import (
    freeing_flows, freeing_links, frees_by_flows, frees_by_links, idle_net, idle_split, road_with_idle, road_with_wider,
    wider_net,
)
from neverjammed.joining import are_joined
from neverjammed.nets import net_beside
from tests.helper import (
    Case, H, I, NOTHING, NO_FLOWS, NO_LINKS, TWO, Z, cases, fits, fraction, lots, number, some_uneven, tight_cases,
)
from tests.plain import plainly_joined, plainly_net, plainly_road

LEFT, RIGHT = (I, Z), (Z, I)
FLOWS = ((I, (LEFT, RIGHT)), (I, (LEFT, RIGHT)))
NET = ((I, I), FLOWS)
HERE, THERE = ((I, Z), (Z, I)), ((Z, I), (I, Z))
AMOUNTS = [(1, 10 ** 6), (1, 3), I, (100, 1)]


def some_pairs():
    """Couples that exchange places on full links, on two or three of them, beside others that do, too."""
    found = [(NET, HERE, THERE), (net_beside(NET, NET), HERE + HERE, THERE + THERE)]
    found.append((net_beside(NET, NET), HERE + HERE, HERE + THERE))
    chance = random.Random(30)
    for many, links in [(2, 2), (3, 3), (3, 3), (4, 3), (3, 2), (3, 3)]:
        unit = [tuple(I if k == link else Z for k in range(links)) for link in range(links)]
        places = [chance.randrange(links) for _ in range(many)]
        rooms = tuple(fraction(places.count(link)) for link in range(links))
        rows = sorted(set(permutations(places)))
        one, other = [tuple(unit[place] for place in chance.choice(rows)) for _ in range(2)]
        found.append(((rooms, ((I, tuple(unit)),) * many), one, other))
    return found


def couples():
    """Tuples (net, one, other) of let splits, joined or not."""
    chance = random.Random(31)
    found = some_pairs()
    for net, splits in tight_cases(40) + cases(8, True):
        found += [(net, one, other) for one, other in product(splits, repeat=2)][:4]
    for _ in range(20):
        net, full, splits = some_uneven(chance)
        found += [(net, full, other) for other in splits]
    return found


def plainly_wider(net, lot, amount):
    rooms = [fraction(number(room) + (number(amount) if link in lot else 0)) for link, room in enumerate(net[0])]
    return tuple(rooms), net[1]


def plainly_idle(net, lot):
    idle = (Z,) * len(net[0])
    return net[0], tuple((demand, ways + (idle,) if k in lot else ways) for k, (demand, ways) in enumerate(net[1]))


def plainly_still(split, lot):
    return tuple(shares + (Z,) if k in lot else shares for k, shares in enumerate(split))


def least_of_all(found):
    return sorted(lot for lot in found if not any(set(other) < set(lot) for other in found))


class FreeingTest(Case):

    def test_nets_and_splits_by_hand(self):
        self.gives(((I, (3, 2)), FLOWS), wider_net, NET, (1,), H)
        self.gives((((4, 3), (4, 3)), FLOWS), wider_net, NET, (0, 1), (1, 3))
        self.gives(NET, wider_net, NET, (), H)
        self.gives(NET, wider_net, NET, (0, 1), Z)
        wide = (LEFT, RIGHT, (Z, Z))
        self.gives((NET[0], ((I, wide), FLOWS[1])), idle_net, NET, (0,))
        self.gives((NET[0], ((I, wide), (I, wide))), idle_net, NET, (0, 1))
        self.gives(NET, idle_net, NET, ())
        self.gives(((I, Z, Z), (Z, I)), idle_split, NET, HERE, (0,))
        self.gives(((I, Z), (Z, I, Z)), idle_split, NET, HERE, (1,))
        self.gives(((I, Z, Z), (Z, I, Z)), idle_split, NET, HERE, (0, 1))
        self.gives(HERE, idle_split, NET, HERE, ())

    def test_nets_and_splits(self):
        for net, splits in cases(40):
            for lot in lots(len(net[0])):
                for amount in [Z, *AMOUNTS]:
                    self.gives(plainly_wider(net, lot, amount), wider_net, net, lot, amount)
            for lot in lots(len(net[1])):
                told = idle_net(net, lot)
                self.gives(plainly_idle(net, lot), idle_net, net, lot)
                self.assertTrue(plainly_net(told))
                for split in splits:
                    self.gives(plainly_still(split, lot), idle_split, net, split, lot)
                    self.assertEqual(fits(net, split), fits(told, idle_split(net, split, lot)))

    def test_lots_by_hand(self):
        self.gives([(0,), (1,)], freeing_links, NET, HERE, THERE)
        self.gives([(0,), (1,)], freeing_flows, NET, HERE, THERE)
        for lot in lots(2):
            self.gives(lot != (), frees_by_links, NET, HERE, THERE, lot)
            self.gives(lot != (), frees_by_flows, NET, HERE, THERE, lot)
            self.gives(True, frees_by_links, NET, HERE, HERE, lot)
            self.gives(True, frees_by_flows, NET, HERE, HERE, lot)
        # Two couples that do not touch each other need a link and a flow each.
        both = net_beside(NET, NET)
        pairs = [(0, 2), (0, 3), (1, 2), (1, 3)]
        self.gives(pairs, freeing_links, both, HERE + HERE, THERE + THERE)
        self.gives(pairs, freeing_flows, both, HERE + HERE, THERE + THERE)
        self.gives([(2,), (3,)], freeing_links, both, HERE + HERE, HERE + THERE)
        self.gives([(0,), (1,)], freeing_flows, both, HERE + HERE, THERE + HERE)
        self.gives([()], freeing_links, both, HERE + HERE, HERE + HERE)
        self.gives([()], freeing_flows, both, HERE + HERE, HERE + HERE)

    def test_a_link_that_does_not_help(self):
        # The third link is full by a flow that has one way alone: a little more of it frees nothing.
        net = ((I, I, H), ((I, ((I, Z, Z), (Z, I, Z))), (I, ((I, Z, Z), (Z, I, Z))), (H, ((Z, Z, I),))))
        one, other = HERE + ((H,),), THERE + ((H,),)
        self.gives([(0,), (1,)], freeing_links, net, one, other)
        self.gives([(0,), (1,)], freeing_flows, net, one, other)
        self.gives(False, frees_by_links, net, one, other, (2,))
        self.gives(False, frees_by_flows, net, one, other, (2,))
        self.gives(None, road_with_wider, net, one, other, (2,), (100, 1))
        self.gives(None, road_with_idle, net, one, other, (2,))

    def test_all_lots(self):
        seen = {}
        for net, one, other in couples():
            free = [lot for lot in lots(len(net[0])) if are_joined(plainly_wider(net, lot, I), one, other)]
            for lot in lots(len(net[0])):
                self.gives(lot in free, frees_by_links, net, one, other, lot)
                for amount in AMOUNTS:
                    self.assertEqual(are_joined(plainly_wider(net, lot, amount), one, other), lot in free)
            self.gives(least_of_all(free), freeing_links, net, one, other)
            self.gives(least_of_all(free), freeing_links, net, other, one)
            idle = [
                lot for lot in lots(len(net[1]))
                if are_joined(plainly_idle(net, lot), plainly_still(one, lot), plainly_still(other, lot))
            ]
            for lot in lots(len(net[1])):
                self.gives(lot in idle, frees_by_flows, net, one, other, lot)
            self.gives(least_of_all(idle), freeing_flows, net, one, other)
            # All links and all flows always do; none does just if they are joined.
            self.assertIn(tuple(range(len(net[0]))), free)
            self.assertIn(tuple(range(len(net[1]))), idle)
            self.assertEqual([() in free, () in idle], [plainly_joined(net, one, other)] * 2)
            seen[len(freeing_links(net, one, other)), len(freeing_flows(net, one, other)), () in free] = True
        self.assertGreater(len(seen), 4)

    def test_roads_with_wider_links(self):
        none = 0
        for net, one, other in couples()[::2]:
            for lot in lots(len(net[0])):
                for amount in AMOUNTS[::2] + [(1, 10 ** 60)]:
                    road = road_with_wider(net, one, other, lot, amount)
                    self.gives(road, road_with_wider, net, one, other, lot, amount)
                    self.assertEqual(road is not None, frees_by_links(net, one, other, lot))
                    none += road is None
                    if road is not None:
                        wide = plainly_wider(net, lot, amount)
                        self.gives(True, is_road, wide, road)
                        self.assertEqual((road[0], end_of(road)), (one, other))
                        self.assertTrue(turns_of(road) > 8 or plainly_road(wide, road))
        self.assertGreater(none, 20)

    def test_roads_with_idle_ways(self):
        none = 0
        for net, one, other in couples()[::2]:
            for lot in lots(len(net[1])):
                road = road_with_idle(net, one, other, lot)
                self.gives(road, road_with_idle, net, one, other, lot)
                self.assertEqual(road is not None, frees_by_flows(net, one, other, lot))
                none += road is None
                if road is not None:
                    wide = plainly_idle(net, lot)
                    self.gives(True, is_road, wide, road)
                    self.assertEqual((road[0], end_of(road)), (plainly_still(one, lot), plainly_still(other, lot)))
                    self.assertTrue(turns_of(road) > 8 or plainly_road(wide, road))
        self.assertGreater(none, 10)

    def test_a_millionth_takes_very_many_turns(self):
        road = road_with_wider(NET, HERE, THERE, (0,), (1, 10 ** 6))
        self.assertGreater(turns_of(road), 10 ** 5)
        self.assertLess(turns_of(road_with_wider(NET, HERE, THERE, (0, 1), (100, 1))), 10)

    def test_nets_with_nothing(self):
        for net, split in [(NO_LINKS, ((I, Z), (H,))), (NO_FLOWS, ()), (NOTHING, ())]:
            self.gives([()], freeing_links, net, split, split)
            self.gives([()], freeing_flows, net, split, split)
            self.gives(True, frees_by_links, net, split, split, ())
            self.gives(True, frees_by_flows, net, split, split, ())
            self.gives(True, is_road, net, road_with_wider(net, split, split, (), I))
        self.gives(((TWO, I, (3, 2)), ()), wider_net, NO_FLOWS, (0, 1), I)
        self.gives(NO_LINKS, wider_net, NO_LINKS, (), I)
        self.gives(((), ((I, ((), (), ())), (H, ((),)))), idle_net, NO_LINKS, (0,))
        self.gives(((I, Z, Z), (H,)), idle_split, NO_LINKS, ((I, Z), (H,)), (0,))
        self.gives([()], freeing_links, NO_LINKS, ((I, Z), (H,)), ((Z, I), (H,)))

    def test_long_numbers(self):
        part = Fraction(10 ** 59 + 1, 10 ** 60)
        one = tuple(tuple(fraction(x) for x in row) for row in [(part, 1 - part), (1 - part, part)])
        self.gives([(0,), (1,)], freeing_links, NET, one, one[::-1])
        self.gives([(0,), (1,)], freeing_flows, NET, one, HERE)
        amount = (1, 10 ** 60 - 1)
        road = road_with_wider(NET, one, HERE, (1,), amount)
        self.gives(True, is_road, plainly_wider(NET, (1,), amount), road)


if __name__ == "__main__":
    unittest.main()
