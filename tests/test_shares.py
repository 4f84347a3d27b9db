"""[19], with EFFICIENT and BETTER of [2], and [6]: against all corners of the shares."""

import random
import unittest
from fractions import Fraction

from neverjammed.forms import is_shares
from neverjammed.prices import are_prices_for, prices_for
from neverjammed.shares import better_shares, efficient_shares, is_better, is_efficient, least_load, lessened
from tests.helper import (
    Case, H, I, NETS, NO_LINKS, ODD_VALUES, TWO, Z, cases, fraction, lots, mixed, number, odd_flows, spoiled, tight_cases,
)
from tests.plain import (
    corners, least_of_corners, loads_of_shares, plainly_better, plainly_efficient, plainly_lessened, plainly_prices_for,
)

LEFT, RIGHT, BOTH, NONE = (I, Z), (Z, I), (I, I), (Z, Z)


def of_one_flow(*ways):
    links = len(ways[0])
    return (I,) * links, ((I, ways),)


def all_shares():
    """Tuples (net, flow, shares) of all kinds."""
    found = [(net, 0, shares) for net, rows in odd_flows(50) for shares in rows]
    for net, splits in cases(20) + tight_cases(30):
        found += [(net, flow, split[flow]) for split in splits[:2] for flow in range(len(split))]
    return found


class SharesTest(Case):

    def test_by_hand(self):
        net = of_one_flow(LEFT, RIGHT, BOTH)
        for shares, told in [
            ((Z, Z, I), {(): True, (0,): False, (1,): False, (0, 1): False}),
            ((H, H, Z), {(): True, (0,): False, (1,): False, (0, 1): True}),
            ((I, Z, Z), {(): True, (0,): False, (1,): True, (0, 1): True}),
            ((Z, I, Z), {(): True, (0,): True, (1,): False, (0, 1): True}),
            (((1, 3), (1, 3), (1, 3)), {(): True, (0,): False, (1,): False, (0, 1): False}),
        ]:
            for lot, is_so in told.items():
                self.gives(is_so, is_efficient, net, 0, shares, lot)
        self.gives((0, 1), lessened, net, 0, (Z, Z, I), (0, 1))
        self.gives((), lessened, net, 0, (H, H, Z), (0, 1))
        self.gives((0,), lessened, net, 0, (H, H, Z), (0,))
        self.gives(None, better_shares, net, 0, (H, H, Z), (0, 1))
        self.gives((Z, I, Z), better_shares, net, 0, (H, H, Z), (0,))
        self.gives((H, H, Z), efficient_shares, net, 0, (H, H, Z), (0, 1))
        self.gives((I, Z, Z), efficient_shares, net, 0, (Z, Z, I), (1,))
        self.gives(H, least_load, net, 0, (H, H, Z), (0, 1), 0)
        self.gives(Z, least_load, net, 0, (H, H, Z), (0,), 0)
        self.gives(Z, least_load, net, 0, (Z, Z, I), (0, 1), 1)

    def test_only_links_on_which_shares_are_better_are_lessened(self):
        # The link 1 can't be lessened without more on the link 0, and the link 2 is borne by all alike.
        net = of_one_flow((Z, I, I), (I, Z, I), (TWO, Z, I))
        self.gives((0,), lessened, net, 0, (Z, Z, I), (0, 1, 2))
        self.gives((0,), lessened, net, 0, (Z, H, H), (0, 1, 2))
        self.gives((), lessened, net, 0, (H, H, Z), (0, 1, 2))
        self.gives((1,), lessened, net, 0, (H, H, Z), (1, 2))
        self.gives(I, least_load, net, 0, (Z, Z, I), (0, 1, 2), 0)
        self.gives(Z, least_load, net, 0, (Z, Z, I), (0, 2), 0)

    def test_a_way_against_means_of_others(self):
        for way, is_so in [
            ((H, H), True), (((1, 2), (499999999, 1000000000)), True), ((H, (500000001, 1000000000)), False), (BOTH, False),
            (((1, 4), (3, 4)), True), (((1, 4), (749999999, 1000000000)), True),
            (((1, 4), (750000001, 1000000000)), False),
        ]:
            net = of_one_flow(LEFT, RIGHT, way)
            self.gives(is_so, is_efficient, net, 0, (Z, Z, I), (0, 1))
            # Used together with both others it shows whether they are.
            self.gives(
                number(way[0]) + number(way[1]) == 1, is_efficient, net, 0, ((1, 3), (1, 3), (1, 3)), (0, 1)
            )

    def test_nothing_to_better(self):
        for flow, shares in enumerate([(H, H), (H,)]):
            self.gives(True, is_efficient, NO_LINKS, flow, shares, ())
            self.gives(None, better_shares, NO_LINKS, flow, shares, ())
            self.gives(shares, efficient_shares, NO_LINKS, flow, shares, ())
            self.gives((), lessened, NO_LINKS, flow, shares, ())
        still = of_one_flow(BOTH, BOTH, BOTH)
        nought = (I, I), ((Z, (BOTH, NONE, LEFT)),)
        alone = of_one_flow(BOTH)
        idle = of_one_flow(NONE, BOTH)
        for net, shares in [(still, (Z, H, H)), (nought, (Z, Z, Z)), (alone, (I,)), (idle, (I, Z))]:
            for lot in lots(2):
                self.gives(True, is_efficient, net, 0, shares, lot)
                self.gives(None, better_shares, net, 0, shares, lot)
                self.gives(shares, efficient_shares, net, 0, shares, lot)
                self.gives((), lessened, net, 0, shares, lot)
                for link in lot:
                    self.gives(fraction(loads_of_shares(net, 0, shares)[link]), least_load, net, 0, shares, lot, link)
        self.gives((I, Z), better_shares, idle, 0, (H, H), (0,))
        self.gives((0, 1), lessened, idle, 0, ((10 ** 9 - 1, 10 ** 9), (1, 10 ** 9)), (0, 1))

    def test_against_all_corners(self):
        seen = {True: 0, False: 0}
        for net, flow, shares in all_shares():
            for lot in lots(len(net[0])):
                is_so = plainly_efficient(net, flow, shares, lot)
                seen[is_so] += 1
                self.gives(is_so, is_efficient, net, flow, shares, lot)
                self.gives(plainly_lessened(net, flow, shares, lot), lessened, net, flow, shares, lot)
                least, _ = least_of_corners(net, flow, shares, lot)
                for link in lot:
                    self.gives(fraction(least[link]), least_load, net, flow, shares, lot, link)
                better = better_shares(net, flow, shares, lot)
                self.gives(better, better_shares, net, flow, shares, lot)
                self.assertEqual(better is None, is_so)
                if better is not None:
                    self.assertTrue(plainly_better(net, flow, shares, lot, better))
                best = efficient_shares(net, flow, shares, lot)
                self.gives(best, efficient_shares, net, flow, shares, lot)
                if is_so:
                    self.assertEqual(best, shares)
                else:
                    self.assertTrue(plainly_better(net, flow, shares, lot, best))
                    self.assertTrue(plainly_efficient(net, flow, best, lot))
        self.assertGreater(min(seen.values()), 400)

    def test_all_better_shares_together(self):
        # Each corner with no more load is a split as good, and so are their means.
        for net, flow, shares in all_shares()[::3]:
            lot = tuple(range(len(net[0])))
            found = corners(net, flow, shares, lot)
            mean = (shares,)
            for k, corner in enumerate(found):
                mean = mixed(mean, (corner,), Fraction(1, k + 2))
            for thing in [*found, mean[0]]:
                self.gives(plainly_better(net, flow, shares, lot, thing), is_better, net, flow, shares, lot, thing)
                for link in lot:
                    least = number(least_load(net, flow, shares, lot, link))
                    self.assertLessEqual(least, loads_of_shares(net, flow, thing)[link])
            # What some better shares have less of, the mean of all corners has less of.
            less = tuple(
                link for link in lot if loads_of_shares(net, flow, mean[0])[link] < loads_of_shares(net, flow, shares)[link]
            )
            self.assertEqual(less, lessened(net, flow, shares, lot))

    def test_better_of_any_value(self):
        net = of_one_flow(LEFT, RIGHT, BOTH)
        wide, mean = (Z, Z, I), (H, H, Z)
        for shares, lot, thing, is_so in [
            (wide, (0, 1), (I, Z, Z), True), (wide, (0, 1), mean, True), (wide, (0, 1), wide, False), (wide, (), mean, False),
            (wide, (0,), (I, Z, Z), False), (wide, (1,), (I, Z, Z), True), (mean, (0, 1), (I, Z, Z), False),
            (mean, (1,), (I, Z, Z), True), (mean, (0,), (I, Z, Z), False), (mean, (0,), wide, False), (mean, (0,), mean, False),
            (wide, (0, 1), ((999, 1000), Z, Z), False), (wide, (0, 1), (TWO, (-1, 1), Z), False),
            (wide, (0, 1), (I, I, (-1, 1)), False), (wide, (0, 1), [I, Z, Z], False), (wide, (0, 1), (I, Z), False),
            (wide, (0, 1), ((True, 1), Z, Z), False), (wide, (0, 1), ((2, 2), Z, Z), False), (wide, (0, 1), (1, 0, 0), False),
            (wide, (0, 1), (I, Z, Z, Z), False), (wide, (0, 1), None, False), (wide, (0, 1), (H, H, H), False),
        ]:
            self.gives(is_so, is_better, net, 0, shares, lot, thing)
        for lot in lots(2):
            for thing in ODD_VALUES:
                self.gives(False, is_better, net, 0, wide, lot, thing)
            for shares in [wide, mean, (H, Z, H)]:
                for thing in [*spoiled((I, Z, Z)), *spoiled(mean), *spoiled((Z, (2, 3), (1, 3)))]:
                    self.gives(plainly_better(net, 0, shares, lot, thing), is_better, net, 0, shares, lot, thing)

    def test_efficiency_hangs_on_the_loads_alone(self):
        # [6]: other shares with the same loads.
        seen = {True: 0, False: 0}
        chance = random.Random(6)
        for _ in range(60):
            links = chance.randrange(1, 4)
            ways = [[Fraction(chance.randrange(4)) for _ in range(links)] for _ in range(3)]
            third = [sum(column) / 3 for column in zip(*ways)]
            net = of_one_flow(*[tuple(fraction(part) for part in way) for way in [*ways, third]])
            same = [(Z, Z, Z, I), ((1, 3), (1, 3), (1, 3), Z), ((1, 6), (1, 6), (1, 6), H)]
            for lot in lots(links):
                told = {is_efficient(net, 0, shares, lot) for shares in same}
                self.assertEqual(len(told), 1)
                seen[told.pop()] += lot != ()
                for shares in same:
                    self.assertEqual(prices_for(net, 0, shares, lot) is None, better_shares(net, 0, shares, lot) is not None)
        self.assertGreater(min(seen.values()), 10)

    def test_efficient_just_if_cheapest_by_some_prices(self):
        for net, flow, shares in all_shares():
            for lot in lots(len(net[0])):
                paper, better = prices_for(net, flow, shares, lot), better_shares(net, flow, shares, lot)
                self.assertEqual(paper is None, better is not None)
                if paper is not None:
                    self.assertTrue(plainly_prices_for(net, flow, shares, lot, paper))
                    self.assertTrue(are_prices_for(net, flow, shares, lot, paper))

    def test_long_numbers_are_exact(self):
        # Scarcely too much on one link, by the last of sixty digits.
        den = 10 ** 59
        net = of_one_flow(LEFT, RIGHT, BOTH)
        shares = ((den // 2 - 1, den), H, (1, den))
        shares = tuple(fraction(number(part)) for part in shares)
        self.assertTrue(is_shares(net, 0, shares))
        self.gives(False, is_efficient, net, 0, shares, (0, 1))
        self.gives((0, 1), lessened, net, 0, shares, (0, 1))
        self.gives(fraction(Fraction(1, 2) - Fraction(1, den)), least_load, net, 0, shares, (0, 1), 0)
        self.gives(H, least_load, net, 0, shares, (0, 1), 1)
        self.gives(True, is_better, net, 0, shares, (0, 1), (H, H, Z))
        self.gives(True, is_efficient, net, 0, efficient_shares(net, 0, shares, (0, 1)), (0, 1))

    def test_all_nets(self):
        for net in NETS:
            for flow, (demand, ways) in enumerate(net[1]):
                shares = (demand,) + (Z,) * (len(ways) - 1)
                for lot in lots(len(net[0])):
                    self.gives(plainly_efficient(net, flow, shares, lot), is_efficient, net, flow, shares, lot)


if __name__ == "__main__":
    unittest.main()
