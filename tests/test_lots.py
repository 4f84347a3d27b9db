"""The lots that other modules go through."""

import unittest

from neverjammed.lots import all_of, least_lots, parts_of, together, without
from tests.helper import Case, lots


class LotsTest(Case):

    def test_parts(self):
        self.gives([()], parts_of, ())
        self.gives([(), (3,)], parts_of, (3,))
        self.gives([(), (0,), (0, 2), (2,)], parts_of, (0, 2))
        for many in range(7):
            self.gives(sorted(lots(many)), parts_of, tuple(range(many)))
        parts_of((1, 2)).clear()
        self.gives([(), (1,), (1, 2), (2,)], parts_of, (1, 2))

    def test_together_and_without(self):
        for lot in lots(5):
            left = tuple(k for k in range(5) if k not in lot)
            self.gives(left, without, (0, 1, 2, 3, 4), lot)
            self.gives((0, 1, 2, 3, 4), together, left, lot)
            self.gives((0, 1, 2, 3, 4), together, lot[::-1], left)
            self.gives(lot, without, lot, left)

    def test_all_and_the_least(self):
        self.gives((), all_of, [])
        self.gives((0, 1, 2), all_of, "abc")
        for wanted in [[], [()], [(0,)], [(0, 2), (1,)], [(0, 1), (0, 2), (1, 2)], [(0, 1, 2, 3)], [(0, 3), (1, 2)]]:
            found = least_lots("abcd", lambda lot, wanted=wanted: any(set(part) <= set(lot) for part in wanted))
            self.assertEqual(found, wanted)


if __name__ == "__main__":
    unittest.main()
