"""[26], with COSTS and GOAL of stage 7, and what [9] says of the cheapest splits."""

import random
import unittest
from fractions import Fraction

from neverjammed.cheapest import cheapest, cost_of, near_split
from neverjammed.costpapers import cost_paper, is_cost_paper
from neverjammed.joining import are_joined
from neverjammed.nets import net_beside, with_way
from tests.helper import (
    Case, H, I, NOTHING, NO_FLOWS, NO_LINKS, TWO, Z, burdened, cases, fits, fraction, let_grid, long_shares, mixed, number,
    some_costs, some_uneven, tight_cases,
)
from tests.plain import (
    plain_cost, plainly_agree, plainly_cost_paper, plainly_joined, plainly_split, plainly_thinned,
)

GAPS = [(10 ** 9, 1), I, (1, 4), (1, 10 ** 6), (1, 10 ** 60)]
HALVES = ((I, I), ((I, ((I, Z), (Z, I))), (I, ((H, Z), (Z, I)))))
FREE, LOCKED = ((Z, I), (I, Z)), ((I, Z), (Z, I))


def tasks():
    """Tuples (net, split, costs) of let splits, locked ones and free ones."""
    chance = random.Random(26)
    found = [(HALVES, split, some_costs(chance, HALVES)) for split in (FREE, LOCKED) for _ in range(4)]
    for net, splits in tight_cases(100) + cases(40, True):
        found += [(net, split, some_costs(chance, net)) for split in splits[:2]]
    for _ in range(40):
        # Costs by which the split is cheapest that fills all links, and is locked.
        net, full, splits = some_uneven(chance)
        costs = tuple(tuple(Z if share[0] else chance.choice([I, H]) for share in shares) for shares in full)
        found += [(net, split, costs) for split in splits]
    return found


class CheapestTest(Case):

    def holds(self, net, split, costs):
        """All that is said of cheapest and near_split; returns the word and the goal."""
        lock = plainly_thinned(net, split)[-1]
        word, goal, found = told = cheapest(net, split, costs)
        self.gives(told, cheapest, net, split, costs)
        self.assertIs(type(told), tuple)
        self.assertTrue(plainly_split(net, found) and fits(net, found))
        self.assertTrue(plainly_agree(net, split, found, lock))
        self.assertEqual(plain_cost(found, costs), number(goal))
        self.assertEqual(fraction(number(goal)), goal)
        # That none costs less is shown by a paper, which is added up.
        self.assertTrue(plainly_cost_paper(net, split, costs, goal, cost_paper(net, split, costs)))
        is_joined = plainly_joined(net, split, found)
        self.assertEqual(word, "reached" if is_joined else "neared")
        for gap in GAPS:
            near = near_split(net, split, costs, gap)
            self.gives(near, near_split, net, split, costs, gap)
            self.assertTrue(plainly_split(net, near) and fits(net, near))
            self.assertTrue(plainly_joined(net, split, near))
            self.assertLess(plain_cost(near, costs), number(goal) + number(gap))
            self.assertGreaterEqual(plain_cost(near, costs), number(goal))
        return word, goal

    def test_by_hand(self):
        self.assertEqual(self.holds(HALVES, FREE, ((Z, I), (I, Z))), ("neared", Z))
        self.gives(("neared", Z, LOCKED), cheapest, HALVES, FREE, ((Z, I), (I, Z)))
        self.assertEqual(self.holds(HALVES, LOCKED, ((I, Z), (Z, I))), ("reached", TWO))
        self.assertEqual(self.holds(HALVES, FREE, ((I, Z), (Z, I))), ("reached", Z))
        self.assertEqual(self.holds(HALVES, LOCKED, ((Z, I), (I, Z))), ("reached", Z))
        # Only a part of the way to the other one costs less than the locked one: nothing bars it.
        self.assertEqual(self.holds(HALVES, FREE, ((Z, I), (Z, (-1, 1)))), ("neared", (-1, 1)))

    def test_costs_that_are_all_alike(self):
        for cost in [Z, I, (-3, 7), (10 ** 59, 10 ** 60 - 1)]:
            for split in (FREE, LOCKED):
                word, goal = self.holds(HALVES, split, ((cost, cost), (cost, cost)))
                self.assertEqual((word, number(goal)), ("reached", 2 * number(cost)))
                self.gives(goal, cost_of, HALVES, split, ((cost, cost), (cost, cost)))

    def test_where_the_least_load_is_locked(self):
        # All cost the same: so the locked one may not be what is found from the free one.
        for split in [LOCKED, FREE]:
            net = burdened(HALVES, split)
            for costs in [((Z, Z), (Z, Z)), ((I, I), ((-2, 3), (-2, 3)))]:
                self.assertEqual(self.holds(net, FREE, costs)[0], "reached")
                self.assertEqual(self.holds(net, LOCKED, costs)[0], "reached")
            both = burdened(net_beside(HALVES, HALVES), split + split)
            costs = ((Z, I), (I, Z)) + ((Z, Z), (Z, Z))
            self.assertEqual(self.holds(both, FREE + FREE, costs), ("neared", Z))
            # Only the first two links bar.
            self.assertEqual(plainly_thinned(both, cheapest(both, FREE + FREE, costs)[2])[-1], (0, 1))

    def test_cost_of_any_split(self):
        chance = random.Random(7)
        for net, splits in cases(60):
            for split in splits:
                costs = some_costs(chance, net)
                self.gives(fraction(plain_cost(split, costs)), cost_of, net, split, costs)
        self.gives((-1, 6), cost_of, HALVES, ((I, Z), ((1, 3), (2, 3))), (((-1, 2), I), (I, Z)))
        self.gives(Z, cost_of, NOTHING, (), ())

    def test_nets_with_nothing(self):
        one = ((I, Z), (H,))
        self.assertEqual(self.holds(NO_LINKS, one, ((I, Z), ((-4, 1),))), ("reached", (-2, 1)))
        self.gives(("reached", (-2, 1), ((Z, I), (H,))), cheapest, NO_LINKS, one, ((I, Z), ((-4, 1),)))
        for net in [NO_FLOWS, NOTHING]:
            self.gives(("reached", Z, ()), cheapest, net, (), ())
            self.gives((), near_split, net, (), (), I)
        # A flow without a demand costs nothing, whatever its ways cost.
        net = ((I, Z), ((Z, ((I, I), (Z, Z))), (I, ((I, Z), (H, Z)))))
        self.assertEqual(self.holds(net, ((Z, Z), (I, Z)), (((-9, 1), I), (I, TWO))), ("reached", I))

    def test_all_tasks(self):
        seen = {}
        for net, split, costs in tasks():
            word, goal = self.holds(net, split, costs)
            lock = plainly_thinned(net, split)[-1]
            seen[word, lock == (), plain_cost(split, costs) == number(goal)] = True
            # Nothing on the grid costs less; what costs as much is locked where found is.
            found = cheapest(net, split, costs)[2]
            bars = set(plainly_thinned(net, found)[-1])
            for other in let_grid(net) if len(net[1]) < 4 else []:
                if plainly_agree(net, split, other, lock):
                    self.assertGreaterEqual(plain_cost(other, costs), number(goal))
                    if plain_cost(other, costs) == number(goal):
                        self.assertLessEqual(bars, set(plainly_thinned(net, other)[-1]))
        for case in [
            ("reached", True, True), ("reached", True, False), ("reached", False, True), ("reached", False, False),
            ("neared", True, False), ("neared", False, False),
        ]:
            self.assertIn(case, seen)

    def test_of_a_locked_split_that_is_only_neared(self):
        # Two links are locked by the first two flows, two more would be by the cheapest shares of the others.
        unit = [tuple(I if k == link else Z for k in range(4)) for link in range(4)]
        less_of = [(Z, Z, H, Z), unit[3]]
        net = ((I, I, I, I), ((I, tuple(unit[:2])), (I, tuple(unit[:2])), (I, tuple(unit[2:])), (I, tuple(less_of))))
        split = LOCKED + FREE
        self.assertEqual(plainly_thinned(net, split)[-1], (0, 1))
        costs = ((Z, Z), (Z, Z), (Z, I), (I, Z))
        self.assertEqual(self.holds(net, split, costs), ("neared", Z))
        self.assertEqual(plainly_thinned(net, cheapest(net, split, costs)[2])[-1], (0, 1, 2, 3))
        # What the locked flows cost can't be changed.
        costs = ((I, Z), (Z, I), (I, Z), (Z, I))
        self.assertEqual(self.holds(net, split, costs), ("reached", TWO))

    def test_costs_hang_on_all_that_are_joined(self):
        for net, splits in tight_cases(40):
            chance = random.Random(len(splits))
            for one in splits:
                for other in splits:
                    costs = some_costs(chance, net)
                    if are_joined(net, one, other):
                        self.assertEqual(cheapest(net, one, costs)[:2], cheapest(net, other, costs)[:2])
                        self.assertLessEqual(number(cheapest(net, one, costs)[1]), plain_cost(other, costs))

    def test_an_idle_way_that_costs_little(self):
        net = with_way(HALVES, 0, (Z, Z))
        for split in [FREE, LOCKED]:
            still = ((*split[0], Z), split[1])
            self.assertEqual(self.holds(net, still, ((Z, I, Z), (Z, Z))), ("reached", Z))
            self.assertEqual(self.holds(net, still, ((I, I, Z), (I, Z))), ("reached", Z))
            self.assertEqual(self.holds(net, still, ((Z, I, H), (I, Z)))[1], Z)

    def test_long_numbers_are_exact(self):
        chance = random.Random(61)
        for _ in range(4):
            rows = [long_shares(chance, I, 2) for _ in range(2)]
            split = (rows[0], rows[0][::-1])
            net = ((I, I), ((I, ((I, Z), (Z, I))), (I, ((I, Z), (Z, I)))))
            costs = tuple(tuple((chance.randrange(-10 ** 60, 10 ** 60), 10 ** 60 + 7) for _ in range(2)) for _ in range(2))
            costs = tuple(tuple(fraction(Fraction(*cost)) for cost in row) for row in costs)
            # All links are locked: the shares are what they are.
            self.assertEqual(self.holds(net, split, costs), ("reached", fraction(plain_cost(split, costs))))
            wide = ((I, TWO), net[1])
            self.holds(wide, split, costs)
            mean = mixed(split, (rows[1], rows[1][::-1]), Fraction(1, 3))
            self.holds(wide, mean, costs)
            self.assertTrue(is_cost_paper(wide, mean, costs, (-10, 1), cost_paper(wide, mean, costs)))


if __name__ == "__main__":
    unittest.main()
