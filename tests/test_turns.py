"""[16], and [5]: clean turns, gone through midst by midst."""

import unittest
from fractions import Fraction

from neverjammed.nets import is_let
from neverjammed.turns import clean_part, growths, is_clean, lacking_room, midst, worst_lot
from tests.helper import (
    Case, H, I, NOTHING, NO_FLOWS, NO_LINKS, PAIR, TWO, Z, cases, fraction, loads, loads_of_flow, lots, midsts, mixed,
    number, taken_over,
)
from tests.plain import plainly_clean

# Two flows that change places on one link.
FLOWS = ((I, ((I,), (Z,))), (I, ((I,), (Z,))))
HERE, THERE = ((I, Z), (Z, I)), ((Z, I), (I, Z))


class TurnsTest(Case):

    def test_midsts(self):
        net = ((TWO,), FLOWS)
        self.gives(HERE, midst, net, HERE, THERE, ())
        self.gives(((Z, I), (Z, I)), midst, net, HERE, THERE, (0,))
        self.gives(((I, Z), (I, Z)), midst, net, HERE, THERE, (1,))
        self.gives(THERE, midst, net, HERE, THERE, (0, 1))
        self.gives((), midst, NO_FLOWS, (), (), ())
        for net, (one, other, _) in cases(20):
            for lot in lots(len(net[1])):
                self.gives(taken_over(one, other, lot), midst, net, one, other, lot)

    def test_a_turn_by_hand(self):
        for room, clean, lacking in [((2, 1), True, Z), ((3, 2), False, H), (I, False, I), ((5, 2), True, Z), (Z, False, TWO)]:
            net = ((room,), FLOWS)
            self.gives(clean, is_clean, net, HERE, THERE)
            self.gives(clean, is_clean, net, THERE, HERE)
            self.gives((lacking,), lacking_room, net, HERE, THERE)
            self.gives((I,), growths, net, HERE, THERE)
            self.gives((TWO, (1,)), worst_lot, net, HERE, THERE, 0)
            self.gives((TWO, (0,)), worst_lot, net, THERE, HERE, 0)
        # One end that is not let is enough, be it the first or the last one.
        net = ((I,), FLOWS)
        self.gives(False, is_clean, net, ((I, Z), (I, Z)), HERE)
        self.gives(False, is_clean, net, HERE, ((I, Z), (I, Z)))

    def test_nets_with_nothing(self):
        for net, one, other in [
            (NO_LINKS, ((I, Z), (H,)), ((Z, I), (H,))), (NO_FLOWS, (), ()), (NOTHING, (), ()),
        ]:
            many = len(net[0])
            self.gives(True, is_clean, net, one, other)
            self.gives((Z,) * many, growths, net, one, other)
            self.gives((Z,) * many, lacking_room, net, one, other)
            self.gives(I, clean_part, net, one, other)
            for link in range(many):
                self.gives((Z, ()), worst_lot, net, one, other, link)

    def test_clean_just_if_all_midsts_are_let(self):
        for is_let_one, seen in [(False, {}), (True, {})]:
            for net, splits in cases(80, is_let_one):
                for one in splits:
                    for other in splits:
                        told = plainly_clean(net, one, other)
                        seen[told, one == other] = True
                        self.gives(told, is_clean, net, one, other)
                        self.gives(told, is_clean, net, other, one)
            self.assertIn((False, False), seen)
            self.assertIn((True, False), seen)

    def test_a_split_to_itself(self):
        for net, splits in cases(40):
            for split in splits:
                self.gives(is_let(net, split), is_clean, net, split, split)
                self.gives((Z,) * len(net[0]), growths, net, split, split)
                borne = loads(net, split)
                over = tuple(fraction(max(0, load - number(room))) for load, room in zip(borne, net[0]))
                self.gives(over, lacking_room, net, split, split)
                for link in range(len(net[0])):
                    self.gives((fraction(borne[link]), ()), worst_lot, net, split, split, link)

    def test_loads_of_all_midsts(self):
        for net, (one, other, _) in cases(60):
            rows = [loads(net, split) for split in midsts(one, other)]
            first = loads(net, one)
            most = [max(row[link] for row in rows) for link in range(len(net[0]))]
            self.gives(tuple(fraction(a - b) for a, b in zip(most, first)), growths, net, one, other)
            lacking = tuple(fraction(max(0, load - number(room))) for load, room in zip(most, net[0]))
            self.gives(lacking, lacking_room, net, one, other)
            self.assertEqual(is_clean(net, one, other), not any(part[0] for part in lacking))
            for link in range(len(net[0])):
                growing = tuple(
                    flow for flow in range(len(net[1]))
                    if loads_of_flow(net, other, flow)[link] > loads_of_flow(net, one, flow)[link]
                )
                self.gives((fraction(most[link]), growing), worst_lot, net, one, other, link)
                self.assertEqual(loads(net, taken_over(one, other, growing))[link], most[link])

    def test_clean_parts_by_hand(self):
        for room, part in [(I, Z), ((3, 2), H), ((4, 3), (1, 3)), (TWO, I), ((7, 2), I), ((1999, 1000), (999, 1000))]:
            self.gives(part, clean_part, ((room,), FLOWS), HERE, THERE)
        # The link with the least part tells, wherever it stands; one that is full bars only what grows on it.
        ways = ((I, Z, I), (Z, I, I))
        flows = ((I, ways), (I, ways))
        for rooms, part in [
            (((3, 2), (5, 4), TWO), (1, 4)), (((5, 4), (3, 2), TWO), (1, 4)), ((I, TWO, TWO), Z), ((TWO, TWO, TWO), I),
            ((TWO, I, TWO), Z), (((5, 2), (7, 4), TWO), (3, 4)),
        ]:
            self.gives(part, clean_part, (rooms, flows), HERE, THERE)
        self.gives(I, clean_part, PAIR, ((H, H), (H,)), ((H, H), (H,)))
        shrinking = ((I,), FLOWS)
        self.gives(I, clean_part, shrinking, HERE, ((Z, I), (Z, I)))
        self.gives(I, clean_part, shrinking, ((Z, I), (Z, I)), HERE)
        self.gives(I, clean_part, ((Z,), FLOWS), ((Z, I), (Z, I)), ((Z, I), (Z, I)))

    def test_clean_parts(self):
        seen = {}
        for net, splits in cases(120, True):
            for one in splits:
                for other in splits:
                    part = number(clean_part(net, one, other))
                    self.gives(fraction(part), clean_part, net, one, other)
                    seen[0 if part == 0 else 2 if part == 1 else 1] = True
                    self.assertTrue(0 <= part <= 1)
                    self.assertEqual(part == 1, plainly_clean(net, one, other))
                    self.assertTrue(plainly_clean(net, one, mixed(one, other, part)))
                    for more in [Fraction(1, 2), Fraction(1, 10 ** 12)]:
                        if part < 1:
                            beyond = mixed(one, other, part + (1 - part) * more)
                            self.assertFalse(plainly_clean(net, one, beyond))
                            self.assertFalse(is_clean(net, one, beyond))
        self.assertEqual(len(seen), 3)


if __name__ == "__main__":
    unittest.main()
