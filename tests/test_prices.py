"""[20], with PRICES and CHEAPEST of [2], and [6]."""

import random
import unittest
from fractions import Fraction

from neverjammed.prices import (
    are_prices_for, cheapest_ways, is_cheapest, least_cost, prices_for, way_cost,
)
from neverjammed.shares import better_shares
from tests.helper import (
    Case, H, I, NO_LINKS, ODD_VALUES, TWO, Z, cases, fraction, lots, number, odd_flows, spoiled, tight_cases,
)
from tests.plain import (
    costs_of_ways, plainly_better, plainly_cheapest, plainly_efficient, plainly_prices_for,
)

LEFT, RIGHT, BOTH, NONE = (I, Z), (Z, I), (I, I), (Z, Z)
NET = ((I, I), ((I, (LEFT, RIGHT, BOTH)), (TWO, (BOTH, NONE)), (Z, ((H, TWO),))))


def some_prices(chance, links):
    return tuple(fraction(Fraction(chance.choice([0, 0, 1, 1, 2, 3]), chance.randrange(1, 4))) for _ in range(links))


class PricesTest(Case):

    def test_by_hand(self):
        for prices, costs, cheapest in [
            ((I, H), [I, H, (3, 2)], (1,)), ((I, I), [I, I, TWO], (0, 1)), ((Z, Z), [Z, Z, Z], (0, 1, 2)),
            ((Z, I), [Z, I, I], (0,)), ((TWO, Z), [TWO, Z, TWO], (1,)),
        ]:
            for way, cost in enumerate(costs):
                self.gives(cost, way_cost, NET, 0, way, prices)
            self.gives(min(costs, key=number), least_cost, NET, 0, prices)
            self.gives(cheapest, cheapest_ways, NET, 0, prices)
            for shares in [(I, Z, Z), (Z, I, Z), (Z, Z, I), (H, H, Z), (H, Z, H), (Z, H, H), ((1, 3), (1, 3), (1, 3))]:
                told = all(way in cheapest for way in range(3) if shares[way] != Z)
                self.gives(told, is_cheapest, NET, 0, shares, prices)
        self.gives((3, 2), way_cost, NET, 1, 0, (I, H))
        self.gives(Z, least_cost, NET, 1, (I, H))
        self.gives((1,), cheapest_ways, NET, 1, (I, H))
        self.gives((9, 4), least_cost, NET, 2, (H, I))

    def test_without_links_and_without_demand(self):
        self.gives(Z, way_cost, NO_LINKS, 0, 1, ())
        self.gives(Z, least_cost, NO_LINKS, 0, ())
        self.gives((0, 1), cheapest_ways, NO_LINKS, 0, ())
        self.gives(True, is_cheapest, NO_LINKS, 0, (H, H), ())
        self.gives((), prices_for, NO_LINKS, 0, (H, H), ())
        self.gives(True, are_prices_for, NO_LINKS, 0, (H, H), (), ())
        net = ((I, I), ((Z, (BOTH, NONE, LEFT)),))
        for lot in lots(2):
            for prices in [(I, TWO), (Z, H), (Z, Z)]:
                self.gives(True, is_cheapest, net, 0, (Z, Z, Z), prices)
                told = lot == tuple(k for k in range(2) if prices[k] != Z)
                self.gives(told, are_prices_for, net, 0, (Z, Z, Z), lot, prices)
            paper = prices_for(net, 0, (Z, Z, Z), lot)
            self.assertTrue(plainly_prices_for(net, 0, (Z, Z, Z), lot, paper))

    def test_costs(self):
        chance = random.Random(20)
        for net, splits in cases(60):
            for flow, (_, ways) in enumerate(net[1]):
                for prices in [some_prices(chance, len(net[0])) for _ in range(3)]:
                    costs = costs_of_ways(net, flow, prices)
                    for way, cost in enumerate(costs):
                        self.gives(fraction(cost), way_cost, net, flow, way, prices)
                    self.gives(fraction(min(costs)), least_cost, net, flow, prices)
                    cheapest = tuple(way for way, cost in enumerate(costs) if cost == min(costs))
                    self.gives(cheapest, cheapest_ways, net, flow, prices)
                    for split in splits:
                        told = plainly_cheapest(net, flow, split[flow], prices)
                        self.gives(told, is_cheapest, net, flow, split[flow], prices)

    def test_prices_just_for_efficient_shares(self):
        seen = {True: 0, False: 0}
        rows = [(net, 0, shares) for net, found in odd_flows(50) for shares in found]
        for net, splits in cases(20) + tight_cases(30):
            rows += [(net, flow, split[flow]) for split in splits[:2] for flow in range(len(split))]
        for net, flow, shares in rows:
            for lot in lots(len(net[0])):
                told = prices_for(net, flow, shares, lot)
                self.gives(told, prices_for, net, flow, shares, lot)
                better = better_shares(net, flow, shares, lot)
                self.assertEqual(told is None, better is not None)
                seen[told is None] += lot != ()
                if told is None:
                    self.assertTrue(plainly_better(net, flow, shares, lot, better))
                else:
                    self.assertTrue(plainly_prices_for(net, flow, shares, lot, told))
                    self.gives(True, are_prices_for, net, flow, shares, lot, told)
                    for other in lots(len(net[0])):
                        self.gives(other == lot, are_prices_for, net, flow, shares, other, told)
        self.assertGreater(min(seen.values()), 200)

    def test_who_costs_the_least_by_some_prices_is_efficient(self):
        chance = random.Random(21)
        seen = {True: 0, False: 0}
        for net, splits in cases(60):
            links = len(net[0])
            for flow in range(len(net[1])):
                for split in splits:
                    prices = some_prices(chance, links)
                    lot = tuple(link for link in range(links) if prices[link] != Z)
                    told = plainly_cheapest(net, flow, split[flow], prices)
                    self.gives(told, are_prices_for, net, flow, split[flow], lot, prices)
                    seen[told] += lot != ()
                    if told:
                        self.assertTrue(plainly_efficient(net, flow, split[flow], lot))
                        self.assertIsNotNone(prices_for(net, flow, split[flow], lot))
        self.assertGreater(min(seen.values()), 20)

    def test_prices_of_any_value(self):
        mean, wide = (H, H, Z), (Z, Z, I)
        for shares, lot, thing, told in [
            (mean, (0, 1), (I, I), True), (mean, (0, 1), ((7, 3), (7, 3)), True), (mean, (0, 1), (I, Z), False),
            (mean, (0, 1), (I, TWO), False), (mean, (0,), (I, Z), False), (mean, (), (Z, Z), True), (wide, (), (Z, Z), True),
            (wide, (0, 1), (I, I), False), ((I, Z, Z), (0, 1), (I, TWO), True), ((I, Z, Z), (0, 1), (TWO, I), False),
            ((I, Z, Z), (1,), (Z, I), True), ((I, Z, Z), (1,), (I, I), False), ((I, Z, Z), (0, 1), (Z, I), False),
            (mean, (0, 1), [I, I], False), (mean, (0, 1), (I,), False), (mean, (0, 1), (I, I, I), False),
            (mean, (0, 1), ((-1, 1), (-1, 1)), False), (mean, (0, 1), (1, 1), False), (mean, (0, 1), (True, True), False),
            (mean, (0, 1), ((2, 2), I), False), (mean, (0, 1), ((True, 1), I), False), (mean, (), (), False),
            (mean, (0, 1), None, False), (mean, (0, 1), ([1, 1], I), False), (mean, (), (Z, (0, 2)), False),
            (wide, (), (Z, I), False), (mean, (0, 1), ((10 ** 39, 7), (10 ** 39, 7)), True),
            (mean, (0, 1), ((10 ** 39, 7), (10 ** 39 + 1, 7)), False),
        ]:
            self.gives(told, are_prices_for, NET, 0, shares, lot, thing)
        for lot in lots(2):
            for thing in ODD_VALUES:
                self.gives(False, are_prices_for, NET, 0, mean, lot, thing)
            for shares in [mean, wide, (Z, I, Z)]:
                for thing in [*spoiled((I, I)), *spoiled((Z, (3, 2))), *spoiled((Z, Z))]:
                    told = plainly_prices_for(NET, 0, shares, lot, thing)
                    self.gives(told, are_prices_for, NET, 0, shares, lot, thing)

    def test_long_numbers_are_exact(self):
        # Scarcely dearer by the last of sixty digits.
        near = 10 ** 59 - 1, 10 ** 59
        self.gives((1,), cheapest_ways, NET, 0, (I, near))
        self.gives(False, is_cheapest, NET, 0, (H, H, Z), (I, near))
        self.gives(False, is_cheapest, NET, 0, ((1, 10 ** 59), near, Z), (I, near))
        self.gives(True, is_cheapest, NET, 0, (Z, I, Z), (I, near))
        self.gives(fraction(1 + number(near)), way_cost, NET, 0, 2, (I, near))
        self.gives(near, least_cost, NET, 0, (I, near))
        shares = (near, (1, 10 ** 59), Z)
        self.assertTrue(plainly_prices_for(NET, 0, shares, (0, 1), prices_for(NET, 0, shares, (0, 1))))
        self.gives(None, prices_for, NET, 0, (Z, near, (1, 10 ** 59)), (0, 1))
        self.gives(None, prices_for, NET, 0, shares, (1,))


if __name__ == "__main__":
    unittest.main()
