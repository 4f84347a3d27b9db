"""[13]."""

import math
import unittest
from fractions import Fraction

from neverjammed.fractions import (
    added, common_den, compared, greatest_of, least_of, less, over, reduced, times,
)
from tests.helper import fraction, number

MANY = 10 ** 60 + 7
PARTS = [
    (0, 1), (1, 1), (-1, 1), (1, 2), (-1, 2), (2, 3), (-5, 6), (7, 4), (12, 1), (-12, 5),
    (MANY, 3), (-MANY, 3), (1, MANY), (-7, MANY), (MANY - 1, MANY), (MANY, MANY - 1), (10 ** 39, 7),
]
ROWS = [
    [], [(0, 1)], [(3, 4)], [(-3, 4)], [(1, 2), (1, 2)], [(1, 2), (-1, 2)], [(1, 6), (1, 3), (1, 2)],
    [(5, 2), (-7, 3), (11, 4)], [(-1, 1), (-2, 1), (-3, 1)], [(1, 4), (1, 6)], [(2, 1), (0, 1), (1, 1)],
    PARTS, PARTS[::-1], PARTS[::2], PARTS[10:],
]


class FractionsTest(unittest.TestCase):

    def is_just(self, result, value):
        """The FRACTION of this value, in lowest terms, its den above 0, of plain integers."""
        self.assertIs(type(result), tuple)
        self.assertEqual([type(part) for part in result], [int, int])
        self.assertEqual(result, fraction(value))
        self.assertGreater(result[1], 0)
        self.assertEqual(math.gcd(*result), 1)

    def test_reduced(self):
        for num, den, expected in [
            (0, 5, (0, 1)), (0, -5, (0, 1)), (6, 4, (3, 2)), (-6, 4, (-3, 2)), (6, -4, (-3, 2)), (-6, -4, (3, 2)),
            (7, 7, (1, 1)), (7, -7, (-1, 1)), (3, 1, (3, 1)), (3, -1, (-3, 1)), (1, 3, (1, 3)),
            (MANY * 6, MANY * 4, (3, 2)), (MANY, -MANY * 9, (-1, 9)),
        ]:
            self.assertEqual(reduced(num, den), expected)
        for num in [*range(-9, 10), MANY, -MANY]:
            for den in [*range(-9, 0), *range(1, 10), MANY, -MANY]:
                self.is_just(reduced(num, den), Fraction(num, den))

    def test_two_parts(self):
        for one in PARTS:
            for other in PARTS:
                left, right = number(one), number(other)
                self.is_just(less(one, other), left - right)
                self.is_just(times(one, other), left * right)
                if right:
                    self.is_just(over(one, other), left / right)
                order = compared(one, other)
                self.assertIs(type(order), int)
                self.assertEqual(order, (left > right) - (left < right))

    def test_two_parts_by_hand(self):
        self.assertEqual(less((1, 2), (1, 3)), (1, 6))
        self.assertEqual(less((1, 3), (1, 2)), (-1, 6))
        self.assertEqual(times((2, 3), (-3, 4)), (-1, 2))
        self.assertEqual(over((2, 3), (-4, 3)), (-1, 2))
        self.assertEqual(over((0, 1), (-4, 3)), (0, 1))
        self.assertEqual([compared((1, 3), (1, 2)), compared((1, 2), (1, 2)), compared((1, 2), (1, 3))], [-1, 0, 1])
        self.assertEqual([compared((-1, 3), (-1, 2)), compared((-1, 1), (0, 1))], [1, -1])

    def test_rows(self):
        for row in ROWS:
            values = [number(part) for part in row]
            for parts in [list(row), tuple(row)]:
                self.is_just(added(parts), sum(values))
                self.assertEqual(common_den(parts), math.lcm(*[part[1] for part in row]))
                if row:
                    self.is_just(least_of(parts), min(values))
                    self.is_just(greatest_of(parts), max(values))
                self.assertEqual(list(parts), list(row))

    def test_rows_by_hand(self):
        self.assertEqual([added(()), added([]), added([(1, 6), (1, 3), (1, 2)])], [(0, 1), (0, 1), (1, 1)])
        self.assertEqual([common_den(()), common_den([]), common_den([(1, 4), (5, 6)])], [1, 1, 12])
        self.assertEqual(common_den(((3, 1), (-2, 1))), 1)
        self.assertEqual([least_of([(1, 2), (1, 3)]), greatest_of([(1, 3), (1, 2)])], [(1, 3), (1, 2)])

    def test_the_common_den_is_the_least(self):
        for row in ROWS[:11]:
            many = common_den(row)
            wholes = [k for k in range(1, many + 1) if all((number(part) * k).denominator == 1 for part in row)]
            self.assertEqual(wholes, [many])


if __name__ == "__main__":
    unittest.main()
