"""Least sums, judged by their numbers and prices alone."""

import random
import unittest
from fractions import Fraction

from neverjammed.simplex import least_sum, numbers_or_prices
from tests.helper import Case, H, I, TWO, Z, fraction, number


class SimplexTest(Case):

    def holds(self, costs, rows, rights):
        """The numbers meet the rows, the prices stay below the costs, and both come to the same value."""
        value, numbers, prices = least_sum(costs, rows, rights)
        self.gives((value, numbers, prices), least_sum, costs, rows, rights)
        xs, ys = [number(x) for x in numbers], [number(y) for y in prices]
        self.assertEqual([fraction(x) for x in xs], list(numbers))
        self.assertEqual([fraction(y) for y in ys], list(prices))
        self.assertTrue(all(x >= 0 for x in xs) and len(xs) == len(costs) and len(ys) == len(rows))
        for row, right in zip(rows, rights):
            self.assertEqual(sum(number(part) * x for part, x in zip(row, xs)), number(right))
        for at, cost in enumerate(costs):
            self.assertLessEqual(sum(number(row[at]) * y for row, y in zip(rows, ys)), number(cost))
        self.assertEqual(sum(number(cost) * x for cost, x in zip(costs, xs)), number(value))
        self.assertEqual(sum(number(right) * y for right, y in zip(rights, ys)), number(value))
        return value

    def test_by_hand(self):
        self.assertEqual(self.holds((I, TWO), [(I, I)], [(3, 1)]), (3, 1))
        self.assertEqual(self.holds((TWO, (3, 2)), [(I, I)], [H]), (3, 4))
        self.assertEqual(self.holds((I, (-1, 1)), [(I, I)], [(3, 1)]), (-3, 1))
        # x + y = 2 and x + z = 1: y is at least 1.
        self.assertEqual(self.holds((Z, I, Z), [(I, I, Z), (I, Z, I)], [TWO, I]), I)
        # The same row twice, and one that is empty.
        self.assertEqual(self.holds((I, I), [(I, H), (I, H), (Z, Z)], [I, I, Z]), I)
        self.assertEqual(self.holds((I, I), [(I, (-1, 1)), ((-1, 1), I)], [Z, Z]), Z)

    def test_numbers_that_are_known_to_meet_the_rows(self):
        chance = random.Random(5)
        for kind in range(300):
            many, size = chance.randrange(1, 8), chance.randrange(1, 7)
            den = 10 ** 50 if kind % 3 == 0 else 6
            xs = [Fraction(chance.choice([0, 0, 1, 2, chance.randrange(den)]), chance.choice([1, den])) for _ in range(many)]
            rows = [[chance.choice([0, 0, 1, 1, 2, -1, Fraction(1, 3)]) for _ in range(many)] for _ in range(size)]
            if kind % 4 == 0:
                rows.append([2 * part for part in rows[0]])
                rows.append([a + b for a, b in zip(rows[0], rows[-2])])
            rows.append([1] * many)
            rights = [sum(part * x for part, x in zip(row, xs)) for row in rows]
            rows = [[-part for part in row] if right < 0 else row for row, right in zip(rows, rights)]
            rights = [abs(right) for right in rights]
            costs = [Fraction(chance.randrange(-4, 5), chance.choice([1, 2, 3])) for _ in range(many)]
            value = self.holds(
                tuple(fraction(cost) for cost in costs), [tuple(fraction(part) for part in row) for row in rows],
                [fraction(right) for right in rights],
            )
            self.assertLessEqual(number(value), sum(cost * x for cost, x in zip(costs, xs)))

    def test_states_do_not_come_again(self):
        # Beale's example, in which a less careful choice goes round for ever.
        rows = [
            ((1, 4), (-60, 1), (-1, 25), (9, 1), I, Z, Z), (H, (-90, 1), (-1, 50), (3, 1), Z, I, Z), (Z, Z, I, Z, Z, Z, I),
        ]
        costs = ((-3, 4), (150, 1), (-1, 50), (6, 1), Z, Z, Z)
        self.assertEqual(self.holds(costs, rows, [Z, Z, I]), (-1, 20))
        # Others, for choices of the first, the last or the one with the greatest index among rows as tight.
        for costs, rows in [
            ([0, 4, 2, 3, -1, 0, 0, 0], [[0, -3, 0, 9, -2, 1, 0, 0], [0, -8, 5, 4, -7, 0, 0, 1], [0, 6, -7, 9, -7, 0, 1, 0]]),
            ([3, 4, 0, 3, 8, 1, 0, 0, -9], [[-8, -7, 0, -3, 4, -7, 0, 1, -8], [7, 8, 1, 3, 2, -6, 0, 0, -6]]),
            ([0, 0, 0, 0, 8, -2, -2, 4], [[0, 0, 0, 1, -6, 3, 2, -8], [0, 0, 1, 0, -9, -6, -3, 3], [0, 1, 0, 0, -5, 8, 1, -9]]),
            ([4, 6, 9, 0, -1, 0, 0, -9, 0],
             [[-8, -4, 2, 0, 1, 0, 1, -4, 0], [-9, -1, -5, 0, 7, 0, 0, -8, 1], [-2, -8, -6, 1, 3, 0, 0, 5, 0]]),
            ([-3, -9, -9, 9, -5, 0, 0, 0, 0],
             [[8, 8, 1, 4, 3, 1, 0, 0, 0], [6, -8, -9, -7, 4, 0, 1, 0, 0], [0, 4, -6, -6, 7, 0, 0, 1, 0]]),
        ]:
            rows = [*rows, [1] * len(costs)]
            self.holds(
                tuple(fraction(cost) for cost in costs), [tuple(fraction(part) for part in row) for row in rows],
                [Z] * (len(rows) - 1) + [I],
            )

    def meets(self, many, rows, rights):
        """Just one of numbers that meet the rows and prices that show that there are none; whether it is numbers."""
        numbers, prices = numbers_or_prices(many, rows, rights)
        self.gives((numbers, prices), numbers_or_prices, many, rows, rights)
        self.assertNotEqual(numbers is None, prices is None)
        if numbers is not None:
            xs = [number(x) for x in numbers]
            self.assertTrue(all(x >= 0 for x in xs) and len(xs) == many)
            for row, right in zip(rows, rights):
                self.assertEqual(sum(number(part) * x for part, x in zip(row, xs)), number(right))
            return True
        ys = [number(y) for y in prices]
        self.assertEqual([fraction(y) for y in ys], list(prices))
        self.assertEqual(len(ys), len(rows))
        for at in range(many):
            self.assertLessEqual(sum(number(row[at]) * y for row, y in zip(rows, ys)), 0)
        self.assertGreater(sum(number(right) * y for right, y in zip(rights, ys)), 0)
        return False

    def test_numbers_or_prices_by_hand(self):
        self.assertTrue(self.meets(0, [], []))
        self.assertTrue(self.meets(2, [], []))
        self.assertTrue(self.meets(2, [(I, I)], [H]))
        self.assertFalse(self.meets(2, [(Z, (-1, 1))], [H]))
        self.assertTrue(self.meets(2, [(Z, (-1, 1))], [Z]))
        self.assertFalse(self.meets(2, [(I, I), (I, I)], [I, H]))
        self.assertTrue(self.meets(2, [(I, I), (TWO, TWO)], [I, TWO]))
        self.assertFalse(self.meets(2, [(I, H), (H, (1, 3))], [I, I]))
        self.assertFalse(self.meets(1, [(I,), ((1, 3),)], [(1, 10 ** 40), (1, 3 * 10 ** 40 + 1)]))
        self.assertTrue(self.meets(1, [(I,), ((1, 3),)], [(1, 10 ** 40), (1, 3 * 10 ** 40)]))

    def test_numbers_or_prices(self):
        chance = random.Random(8)
        seen = {True: 0, False: 0}
        for kind in range(400):
            many, size = chance.randrange(1, 7), chance.randrange(1, 6)
            rows = [[chance.choice([0, 0, 1, 1, 2, -1, Fraction(2, 3)]) for _ in range(many)] for _ in range(size)]
            den = 10 ** 50 if kind % 3 == 0 else 6
            xs = [Fraction(chance.choice([0, 1, 2, chance.randrange(den)]), chance.choice([1, den])) for _ in range(many)]
            rights = [abs(sum(part * x for part, x in zip(row, xs))) for row in rows]
            if kind % 2 == 0:
                rights[chance.randrange(size)] += Fraction(1, chance.choice([1, 10 ** 30]))
            is_so = self.meets(many, [tuple(fraction(part) for part in row) for row in rows], [fraction(right) for right in rights])
            seen[is_so] += 1
        self.assertGreater(min(seen.values()), 80)


if __name__ == "__main__":
    unittest.main()
