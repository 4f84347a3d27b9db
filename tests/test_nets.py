"""[14], and what [7] says of the links that are full at a mean."""

import unittest
from fractions import Fraction
from itertools import permutations, product

from neverjammed.forms import is_net, is_split
from neverjammed.nets import (
    agree, full_links, is_let, load_of, loads_on, mean_split, net_beside, ordered_flows, ordered_links, with_demand,
    with_room, with_way,
)
from tests.helper import (
    Case, H, I, NETS, NOTHING, NO_FLOWS, NO_LINKS, PAIR, TWO, Z, cases, fits, fraction, loads, loads_of_flow, lots, mixed,
    number,
)

SPLIT = ((H, H), (H,))
ASIDE = ((I, Z), (H,))


class NetsTest(Case):

    def test_loads_by_hand(self):
        self.gives((1, 2), load_of, PAIR, SPLIT, 0, 0)
        self.gives(I, load_of, PAIR, SPLIT, 0, 1)
        self.gives(H, load_of, PAIR, SPLIT, 1, 1)
        self.gives((I, (3, 2)), loads_on, PAIR, SPLIT)
        self.gives(((3, 2), H), loads_on, PAIR, ASIDE)
        self.gives((), loads_on, NO_LINKS, ((H, H), (H,)))
        self.gives((Z, Z, Z), loads_on, NO_FLOWS, ())
        self.gives((), loads_on, NOTHING, ())

    def test_loads(self):
        for net, splits in cases(30):
            for split in splits:
                self.gives(tuple(fraction(load) for load in loads(net, split)), loads_on, net, split)
                for flow in range(len(net[1])):
                    for link, load in enumerate(loads_of_flow(net, split, flow)):
                        self.gives(fraction(load), load_of, net, split, flow, link)

    def test_let_and_full_by_hand(self):
        for rooms, let, full in [
            ((I, (3, 2)), True, (0, 1)), ((TWO, (3, 2)), True, (1,)), ((I, (8, 5)), True, (0,)), ((TWO, TWO), True, ()),
            (((9, 10), (3, 2)), False, (1,)), ((I, (7, 5)), False, (0,)), ((Z, Z), False, ()), ((Z, TWO), False, ()),
        ]:
            self.gives(let, is_let, (rooms, PAIR[1]), SPLIT)
            self.gives(full, full_links, (rooms, PAIR[1]), SPLIT)
        self.gives(False, is_let, PAIR, ASIDE)
        self.gives((), full_links, PAIR, ASIDE)
        self.gives(True, is_let, NO_LINKS, ((H, H), (H,)))
        self.gives((), full_links, NO_LINKS, ((H, H), (H,)))
        self.gives(True, is_let, NO_FLOWS, ())
        self.gives((1,), full_links, NO_FLOWS, ())
        self.gives(True, is_let, NOTHING, ())
        self.gives((), full_links, NOTHING, ())

    def test_let_and_full(self):
        seen = []
        for net, splits in cases(60):
            for split in splits:
                borne = loads(net, split)
                full = tuple(k for k, room in enumerate(net[0]) if borne[k] == number(room))
                self.gives(fits(net, split), is_let, net, split)
                self.gives(full, full_links, net, split)
                seen.append((fits(net, split), full != ()))
        self.assertEqual(len(set(seen)), 4)

    def test_agree_by_hand(self):
        for lot, told in [((), True), ((0,), False), ((1,), False), ((0, 1), False)]:
            self.gives(told, agree, PAIR, SPLIT, ASIDE, lot)
            self.gives(told, agree, PAIR, ASIDE, SPLIT, lot)
            self.gives(True, agree, PAIR, SPLIT, SPLIT, lot)
        self.gives(True, agree, NO_FLOWS, (), (), (0, 1, 2))
        self.gives(True, agree, NO_LINKS, ((I, Z), (H,)), ((Z, I), (H,)), ())
        # The same load of all flows together is not enough.
        net = ((I, I), ((I, ((I, Z), (Z, I))), (I, ((I, Z), (Z, I)))))
        self.gives(False, agree, net, ((I, Z), (Z, I)), ((Z, I), (I, Z)), (0,))
        # Other shares with the same loads are.
        net = ((I, I), ((I, ((I, Z), (I, I))),))
        self.gives(True, agree, net, ((I, Z),), ((Z, I),), (0,))
        self.gives(False, agree, net, ((I, Z),), ((Z, I),), (0, 1))

    def test_agree(self):
        seen = {True: 0, False: 0}
        for net, (one, other, _) in cases(40):
            for lot in lots(len(net[0])):
                told = all(
                    loads_of_flow(net, one, flow)[link] == loads_of_flow(net, other, flow)[link]
                    for flow in range(len(net[1])) for link in lot
                )
                seen[told and lot != ()] += 1
                self.gives(told, agree, net, one, other, lot)
        self.assertGreater(min(seen.values()), 10)

    def test_means_by_hand(self):
        self.gives((((3, 4), (1, 4)), (H,)), mean_split, PAIR, (SPLIT, ASIDE), (H, H))
        self.gives((((2, 3), (1, 3)), (H,)), mean_split, PAIR, (SPLIT, ASIDE), ((2, 3), (1, 3)))
        self.gives(SPLIT, mean_split, PAIR, (SPLIT, ASIDE), (I, Z))
        self.gives(ASIDE, mean_split, PAIR, (SPLIT, ASIDE), (Z, I))
        self.gives(SPLIT, mean_split, PAIR, (SPLIT,), (I,))
        self.gives(SPLIT, mean_split, PAIR, (ASIDE, SPLIT, ((Z, I), (H,))), ((1, 3), (1, 3), (1, 3)))
        self.gives(SPLIT, mean_split, PAIR, (ASIDE, SPLIT, ((Z, I), (H,))), (H, Z, H))
        self.gives((), mean_split, NO_FLOWS, ((), ()), (H, H))
        self.gives(((H, H), (H,)), mean_split, NO_LINKS, (((I, Z), (H,)), ((Z, I), (H,))), (H, H))

    def test_means(self):
        for net, splits in cases(20):
            for parts in [(H, (1, 3), (1, 6)), (Z, (2, 5), (3, 5)), (Z, I, Z), ((3, 10 ** 30), Z, (10 ** 30 - 3, 10 ** 30))]:
                mean = tuple(
                    tuple(
                        fraction(sum(number(part) * number(split[flow][way]) for part, split in zip(parts, splits)))
                        for way in range(len(ways))
                    )
                    for flow, (_, ways) in enumerate(net[1])
                )
                self.gives(mean, mean_split, net, splits, parts)
                self.assertTrue(is_split(net, mean))

    def test_full_links_at_a_mean(self):
        for net, splits in cases(60, True):
            for one, other in product(splits, repeat=2):
                both = tuple(k for k in full_links(net, one) if k in full_links(net, other))
                for part in [Fraction(1, 2), Fraction(1, 10 ** 9), Fraction(4, 5)]:
                    mean = mean_split(net, (one, other), (fraction(1 - part), fraction(part)))
                    self.assertEqual(mean, mixed(one, other, part))
                    self.assertTrue(is_let(net, mean))
                    self.assertEqual(full_links(net, mean), both)

    def test_full_links_at_a_mean_by_hand(self):
        net = ((I, I, I, TWO), ((I, ((I, Z, I, I), (Z, I, I, I))),))
        for part in [H, (1, 9), (8, 9), (1, 10 ** 9)]:
            parts = (part, fraction(1 - number(part)))
            mean = mean_split(net, (((I, Z),), ((Z, I),)), parts)
            self.gives((2,), full_links, net, mean)
        self.gives((0, 2), full_links, net, ((I, Z),))
        self.gives((1, 2), full_links, net, ((Z, I),))

    def test_with_room(self):
        rooms, flows = PAIR
        self.gives((((7, 3), (3, 2)), flows), with_room, PAIR, 0, (7, 3))
        self.gives(((I, Z), flows), with_room, PAIR, 1, Z)
        self.gives((rooms, flows), with_room, PAIR, 1, (3, 2))
        self.gives(((I, Z, TWO), ()), with_room, NO_FLOWS, 2, TWO)

    def test_with_demand(self):
        rooms, (first, last) = PAIR
        self.gives((rooms, (((5, 3), first[1]), last)), with_demand, PAIR, 0, (5, 3))
        self.gives((rooms, (first, (Z, last[1]))), with_demand, PAIR, 1, Z)
        self.gives(((), (NO_LINKS[1][0], (TWO, ((),)))), with_demand, NO_LINKS, 1, TWO)

    def test_with_way(self):
        rooms, (first, last) = PAIR
        self.gives((rooms, ((I, ((I, Z), (Z, TWO), (H, Z))), last)), with_way, PAIR, 0, (H, Z))
        self.gives((rooms, (first, (H, ((I, I), (I, I))))), with_way, PAIR, 1, (I, I))
        self.gives(((), (NO_LINKS[1][0], (H, ((), ())))), with_way, NO_LINKS, 1, ())

    def test_ordered_links_by_hand(self):
        self.gives((((3, 2), I), ((I, ((Z, I), (TWO, Z))), (H, ((I, I),)))), ordered_links, PAIR, (1, 0))
        net = ((I, TWO, H), ((I, ((I, TWO, H),)),))
        self.gives(((H, I, TWO), ((I, ((H, I, TWO),)),)), ordered_links, net, (2, 0, 1))
        self.gives(((TWO, H, I), ((I, ((TWO, H, I),)),)), ordered_links, net, (1, 2, 0))
        self.gives(NO_LINKS, ordered_links, NO_LINKS, ())
        self.gives(((Z, (3, 2), I), ()), ordered_links, NO_FLOWS, (1, 2, 0))

    def test_ordered_flows_by_hand(self):
        rooms, (first, last) = PAIR
        self.gives((rooms, (last, first)), ordered_flows, PAIR, (1, 0))
        self.gives((rooms, (first, last, last)), ordered_flows, (rooms, (last, last, first)), (2, 0, 1))
        self.gives(NO_FLOWS, ordered_flows, NO_FLOWS, ())
        flows = ((I, ((),)), (TWO, ((),)), (H, ((),)))
        self.gives(((), (flows[1], flows[2], flows[0])), ordered_flows, ((), flows), (1, 2, 0))

    def test_orders_move_the_loads(self):
        for net, (split, _, _) in cases(20):
            borne = loads_on(net, split)
            for order in permutations(range(len(net[0]))):
                moved = ordered_links(net, order)
                self.assertTrue(is_net(moved))
                self.assertEqual(loads_on(moved, split), tuple(borne[k] for k in order))
                self.assertEqual(moved[0], tuple(net[0][k] for k in order))
            for order in permutations(range(len(net[1]))):
                moved = ordered_flows(net, order)
                self.assertTrue(is_net(moved))
                self.assertEqual(loads_on(moved, tuple(split[k] for k in order)), borne)

    def test_net_beside_by_hand(self):
        net = ((H,), ((TWO, ((I,), (Z,))),))
        self.gives(
            ((I, (3, 2), H), ((I, ((I, Z, Z), (Z, TWO, Z))), (H, ((I, I, Z),)), (TWO, ((Z, Z, I), (Z, Z, Z))))),
            net_beside, PAIR, net,
        )
        self.gives(
            ((H, I, (3, 2)), ((TWO, ((I, Z, Z), (Z, Z, Z))), (I, ((Z, I, Z), (Z, Z, TWO))), (H, ((Z, I, I),)))),
            net_beside, net, PAIR,
        )
        self.gives(((I,), (((2, 1), ((Z,),)),)), net_beside, ((I,), ()), ((), ((TWO, ((),)),)))
        self.gives(((I,), (((2, 1), ((Z,),)),)), net_beside, ((), ((TWO, ((),)),)), ((I,), ()))

    def test_nets_beside(self):
        for one in NETS:
            self.gives(one, net_beside, one, NOTHING)
            self.gives(one, net_beside, NOTHING, one)
            for other in NETS:
                self.assertTrue(is_net(net_beside(one, other)))
        rows = cases(20)
        for (one, (split, _, _)), (other, (aside, _, _)) in zip(rows, rows[1:]):
            both = net_beside(one, other)
            self.assertTrue(is_net(both))
            self.assertEqual(loads_on(both, split + aside), loads_on(one, split) + loads_on(other, aside))


if __name__ == "__main__":
    unittest.main()
