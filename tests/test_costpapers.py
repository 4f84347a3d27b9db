"""[27]: papers of prices and tolls, and what they add up to."""

import random
import unittest
from fractions import Fraction

from neverjammed.cheapest import cheapest
from neverjammed.costpapers import cost_paper, is_cost_paper, sum_of_paper
from neverjammed.locks import lock_of
from tests.helper import (
    Case, H, I, NOTHING, NO_FLOWS, NO_LINKS, ODD_VALUES, TWO, Z, cases, fraction, let_grid, long_shares, number,
    some_costs, some_uneven, spoiled, tight_cases,
)
from tests.plain import plain_cost, plain_sum_of_paper, plainly_agree, plainly_cost_paper, plainly_thinned

NET = ((I, I), ((I, ((I, Z), (Z, I))), (I, ((H, Z), (Z, I)))))
FREE, LOCKED = ((Z, I), (I, Z)), ((I, Z), (Z, I))
COSTS = ((Z, I), (I, Z))
NOUGHT = ((Z, Z), ((Z, Z), (Z, Z)))
MINUS = (-1, 1)


def tasks():
    """Tuples (net, split, costs) of let splits, locked ones and free ones."""
    chance = random.Random(27)
    found = [(NET, split, some_costs(chance, NET)) for split in (FREE, LOCKED) for _ in range(4)]
    for net, splits in tight_cases(80) + cases(40, True):
        found += [(net, split, some_costs(chance, net)) for split in splits[:2]]
    for _ in range(25):
        net, full, splits = some_uneven(chance)
        found += [(net, split, some_costs(chance, net)) for split in (full, *splits)]
    return found


def some_paper(chance, net, split):
    """A COST PAPER of the split, whatever it adds up to."""
    lock = plainly_thinned(net, split)[-1]
    links = range(len(net[0]))
    prices = tuple(fraction(Fraction(chance.choice([0, 0, 1, 2, 5]), chance.choice([1, 2, 3]))) for _ in links)
    tolls = tuple(
        tuple(fraction(Fraction(chance.randrange(-4, 5), 3)) if link in lock else Z for link in links) for _ in net[1]
    )
    return prices, tolls


class CostPapersTest(Case):

    def test_by_hand(self):
        self.gives(Z, sum_of_paper, NET, FREE, COSTS, NOUGHT)
        for least, is_so in [(Z, True), ((-1, 9), True), ((1, 10 ** 60), False), (I, False), ((-10 ** 60, 1), True)]:
            self.gives(is_so, is_cost_paper, NET, FREE, COSTS, least, NOUGHT)
        tolled = ((Z, Z), ((MINUS, Z), (Z, MINUS)))
        costs = ((I, Z), (Z, I))
        # Locked shares cost what they cost: less of a toll of the link costs as much on the other one.
        self.gives(TWO, sum_of_paper, NET, LOCKED, costs, tolled)
        self.gives(True, is_cost_paper, NET, LOCKED, costs, TWO, tolled)
        self.gives(False, is_cost_paper, NET, LOCKED, costs, (10 ** 60 + 1, 10 ** 60 // 2), tolled)
        self.gives(False, is_cost_paper, NET, FREE, costs, TWO, tolled)
        self.gives(False, is_cost_paper, NET, FREE, costs, (-9, 1), tolled)
        # A price takes the room, a toll the load that the split has.
        self.gives(MINUS, sum_of_paper, NET, FREE, COSTS, ((TWO, Z), NOUGHT[1]))
        self.gives(Z, sum_of_paper, NET, FREE, COSTS, ((I, Z), NOUGHT[1]))
        self.gives(MINUS, sum_of_paper, NET, LOCKED, COSTS, (NOUGHT[0], ((TWO, Z), (Z, Z))))
        self.gives(MINUS, sum_of_paper, NET, LOCKED, COSTS, ((I, I), ((TWO, Z), (MINUS, Z))))
        self.gives((-3, 2), sum_of_paper, NET, LOCKED, COSTS, ((I, I), ((TWO, Z), ((-2, 1), Z))))
        self.gives(True, is_cost_paper, NET, LOCKED, COSTS, (-3, 2), ((I, I), ((TWO, Z), ((-2, 1), Z))))

    def test_papers_that_add_up_to_the_goal(self):
        tolled = 0
        for net, split, costs in tasks():
            paper = cost_paper(net, split, costs)
            self.gives(paper, cost_paper, net, split, costs)
            goal = cheapest(net, split, costs)[1]
            self.assertTrue(plainly_cost_paper(net, split, costs, goal, paper))
            self.assertEqual(plain_sum_of_paper(net, split, costs, paper), number(goal))
            self.gives(goal, sum_of_paper, net, split, costs, paper)
            self.gives(True, is_cost_paper, net, split, costs, goal, paper)
            above = fraction(number(goal) + Fraction(1, 10 ** 60))
            self.gives(False, is_cost_paper, net, split, costs, above, paper)
            tolled += any(toll != Z for row in paper[1] for toll in row)
        self.assertGreater(tolled, 20)

    def test_sums_of_all_papers(self):
        chance = random.Random(3)
        for net, split, costs in tasks():
            paper = some_paper(chance, net, split)
            total = plain_sum_of_paper(net, split, costs, paper)
            self.gives(fraction(total), sum_of_paper, net, split, costs, paper)
            self.assertLessEqual(total, number(cheapest(net, split, costs)[1]))
            for part in [Fraction(0), Fraction(-1, 10 ** 60), Fraction(1, 10 ** 60), Fraction(1), Fraction(-3)]:
                self.gives(part <= 0, is_cost_paper, net, split, costs, fraction(total + part), paper)

    def test_no_split_on_the_grid_costs_less(self):
        chance = random.Random(4)
        for net, split, costs in tasks()[::4]:
            paper = some_paper(chance, net, split)
            lock = plainly_thinned(net, split)[-1]
            for other in let_grid(net) if len(net[1]) < 4 else []:
                if plainly_agree(net, split, other, lock):
                    self.assertGreaterEqual(plain_cost(other, costs), number(sum_of_paper(net, split, costs, paper)))

    def test_tolls_only_on_the_lock(self):
        seen = {True: 0, False: 0}
        for net, split, costs in tasks():
            lock = plainly_thinned(net, split)[-1]
            self.assertEqual(lock_of(net, split), lock)
            paper = cost_paper(net, split, costs)
            for flow in range(len(net[1])):
                for link in range(len(net[0])):
                    row = paper[1][flow]
                    toll = fraction(number(row[link]) - Fraction(1, 7))
                    tolls = paper[1][:flow] + (row[:link] + (toll,) + row[link + 1:],) + paper[1][flow + 1:]
                    is_so = link in lock
                    seen[is_so] += 1
                    self.gives(is_so, is_cost_paper, net, split, costs, (-10 ** 60, 1), (paper[0], tolls))
        self.assertGreater(min(seen.values()), 20)

    def test_nets_with_nothing(self):
        one, costs = ((I, Z), (H,)), ((I, Z), ((-4, 1),))
        paper = ((), ((), ()))
        self.gives(paper, cost_paper, NO_LINKS, one, costs)
        self.gives((-2, 1), sum_of_paper, NO_LINKS, one, costs, paper)
        for least, is_so in [((-2, 1), True), ((-3, 2), False)]:
            self.gives(is_so, is_cost_paper, NO_LINKS, one, costs, least, paper)
        for thing in [*ODD_VALUES, ((), ()), ((), ((),)), ((Z,), ((), ())), ((), ((), (), ()))]:
            self.gives(False, is_cost_paper, NO_LINKS, one, costs, (-2, 1), thing)
        self.gives(((), ()), cost_paper, NOTHING, (), ())
        self.gives(Z, sum_of_paper, NO_FLOWS, (), (), cost_paper(NO_FLOWS, (), ()))
        self.gives((-3, 2), sum_of_paper, NO_FLOWS, (), (), ((Z, TWO, I), ()))
        for prices, is_so in [((Z, I, Z), True), ((I, Z, Z), False), ((Z, MINUS, Z), False), ((Z, Z), False)]:
            self.gives(is_so, is_cost_paper, NO_FLOWS, (), (), Z, (prices, ()))

    def test_papers_of_any_value(self):
        for thing in ODD_VALUES:
            self.gives(False, is_cost_paper, NET, FREE, COSTS, (-9, 1), thing)
            self.gives(False, is_cost_paper, NET, FREE, COSTS, (-9, 1), (thing, NOUGHT[1]))
            self.gives(False, is_cost_paper, NET, FREE, COSTS, (-9, 1), (NOUGHT[0], thing))
            self.gives(False, is_cost_paper, NET, FREE, COSTS, (-9, 1), ((thing, Z), NOUGHT[1]))
            self.gives(False, is_cost_paper, NET, FREE, COSTS, (-9, 1), (NOUGHT[0], ((thing, Z), (Z, Z))))
            self.gives(False, is_cost_paper, NET, FREE, COSTS, (-9, 1), (NOUGHT[0], (thing, (Z, Z))))

    def test_papers_with_one_part_otherwise(self):
        seen = {True: 0, False: 0}
        costs = ((I, Z), (Z, I))
        for split, least, paper in [
            (LOCKED, TWO, ((Z, Z), ((MINUS, Z), (Z, MINUS)))), (LOCKED, (-9, 1), ((H, I), ((I, TWO), (H, MINUS)))),
            (FREE, (-1, 1), ((H, H), ((Z, Z), (Z, Z)))), (FREE, Z, NOUGHT),
        ]:
            for thing in spoiled(paper):
                is_so = plainly_cost_paper(NET, split, costs, least, thing)
                seen[is_so] += 1
                self.gives(is_so, is_cost_paper, NET, split, costs, least, thing)
        self.assertGreater(min(seen.values()), 20)

    def test_long_numbers_are_exact(self):
        chance = random.Random(62)
        for _ in range(5):
            row = long_shares(chance, I, 2)
            net, split = ((I, I), ((I, ((I, Z), (Z, I))), (I, ((I, Z), (Z, I))))), (row, row[::-1])
            costs = some_costs(chance, net)
            toll = fraction(Fraction(chance.randrange(-10 ** 60, 10 ** 60), 10 ** 59 + 9))
            paper = ((row[0], Z), ((toll, Z), (MINUS, row[1])))
            total = plain_sum_of_paper(net, split, costs, paper)
            self.gives(fraction(total), sum_of_paper, net, split, costs, paper)
            self.gives(True, is_cost_paper, net, split, costs, fraction(total), paper)
            self.gives(False, is_cost_paper, net, split, costs, fraction(total + Fraction(1, 10 ** 300)), paper)
            goal = fraction(plain_cost(split, costs))
            self.gives(goal, sum_of_paper, net, split, costs, cost_paper(net, split, costs))


if __name__ == "__main__":
    unittest.main()
