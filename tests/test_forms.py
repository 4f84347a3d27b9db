"""[12], and the definitions of [2] on which it rests."""

import unittest

from neverjammed.forms import (
    is_costs, is_fraction, is_integer, is_lot, is_net, is_prices, is_shares, is_split,
)
from tests.helper import (
    Case, H, I, IDLE, NETS, NOTHING, NO_FLOWS, NO_LINKS, ODD_VALUES, PAIR, TWO, Z, cases, deep, lots, spoiled,
)
from tests.plain import (
    plainly_costs, plainly_fraction, plainly_lot, plainly_net, plainly_prices, plainly_shares, plainly_split,
)


class FormsTest(Case):

    def test_integers(self):
        for thing in [0, 1, -1, 5, -17, 10 ** 39, -(10 ** 60)]:
            self.gives(True, is_integer, thing)
        for thing in [None, True, False, "1", "", (), (1,), [1], {1: 1}, deep(20), *ODD_VALUES]:
            self.gives(type(thing) is int, is_integer, thing)

    def test_fractions(self):
        for thing in [(0, 1), (1, 1), (-1, 1), (1, 2), (-7, 3), (10 ** 39, 7), (-1, 10 ** 39), (6, 35)]:
            self.gives(True, is_fraction, thing)
        for thing in [
            (2, 4), (0, 2), (0, 0), (1, 0), (0, -1), (1, -1), (-1, -2), (-2, 4), (6, 3), (10 ** 39, 10),
            (True, 1), (1, True), (False, 1), (True, 2), [1, 1], (1, 1, 1), (1,), (), ("1", 1), (1, "1"),
            ((1, 1), (1, 1)), (None, 1), (1, None), 1, 0, True, None, "11", {1: 1, 2: 1}, {0: 1, 1: 1},
        ]:
            self.gives(False, is_fraction, thing)
        for thing in ODD_VALUES:
            self.gives(False, is_fraction, thing)

    def test_fractions_of_small_numbers(self):
        for num in range(-12, 13):
            for den in range(-3, 13):
                self.gives(plainly_fraction((num, den)), is_fraction, (num, den))

    def test_nets(self):
        for net in NETS:
            self.gives(True, is_net, net)
        for net, _ in cases(20):
            self.gives(True, is_net, net)
        many = (((1, 3),) * 9, ((I, ((Z,) * 9,) * 7),) * 8)
        self.gives(True, is_net, many)
        equal = ((I,), ((I, ((I,), (I,), (Z,))), (Z, ((Z,),))))
        self.gives(True, is_net, equal)

    def test_no_nets(self):
        for thing in [
            ((I,), ((I, ()),)),
            ((I,), ((I, ((),)),)),
            ((I,), ((I, ((I, I),)),)),
            ((), ((I, ((I,),)),)),
            ((I,), ((I, ((I,), (I, Z))),)),
            ((I,), ((I, ((I,), ())),)),
            (((-1, 1),), ()),
            ((), (((-1, 2), ((),)),)),
            ((I,), ((I, (((-1, 3),),)),)),
            ((I,), ((I, ((I,), ((-1, 3),))),)),
            (((2, 4),), ()),
            (((1, 0),), ()),
            (((1, -1),), ()),
            (((True, 1),), ()),
            (((0, True),), ()),
            ([I], ()),
            ((I,), []),
            [(I,), ()],
            ((I,), ([I, ((I,),)],)),
            ((I,), ((I, [(I,)]),)),
            ((I,), ((I, ([I],)),)),
            ((I,), (((I,),),)),
            ((I,), ((I, ((I,),), ()),)),
            ((I,), ((I,),)),
            ((I,), (), ()),
            ((I,),),
            (),
            (I, ()),
            ((I,), I),
            ((), None),
            (None, ()),
        ]:
            self.gives(False, is_net, thing)
        for thing in ODD_VALUES:
            self.gives(False, is_net, thing)

    def test_nets_spoiled_at_some_place(self):
        seen = {True: 0, False: 0}
        for net in [*NETS, cases(3)[1][0]]:
            for thing in spoiled(net):
                seen[plainly_net(thing)] += 1
                self.gives(plainly_net(thing), is_net, thing)
        self.assertGreater(min(seen.values()), 30)

    def test_shares(self):
        for flow, shares in [
            (0, (I, Z)), (0, (Z, I)), (0, (H, H)), (0, ((1, 3), (2, 3))), (0, ((1, 7 ** 30), (7 ** 30 - 1, 7 ** 30))),
            (1, (H,)),
        ]:
            self.gives(True, is_shares, PAIR, flow, shares)
        self.gives(True, is_shares, IDLE, 0, (Z, Z))
        self.gives(True, is_shares, IDLE, 1, ((1, 3), Z, (1, 3)))
        self.gives(True, is_shares, NO_LINKS, 0, ((1, 4), (3, 4)))
        for flow, shares in [
            (0, (H, Z)), (0, (I, H)), (0, (TWO, (-1, 1))), (0, ((-1, 1), TWO)), (0, ((3, 2), (-1, 2))), (0, (I,)),
            (0, (I, Z, Z)), (0, [I, Z]), (0, ([1, 1], Z)), (0, ((2, 2), Z)), (0, (I, (0, 2))), (0, ((True, 1), Z)),
            (0, (I, (False, 1))), (0, ((1, True), Z)), (0, ()), (0, (1, 0)), (0, 1), (0, {0: I, 1: Z}),
            (1, (H, Z)), (1, (I,)), (1, H), (1, ((2, 4),)), (1, ()),
        ]:
            self.gives(False, is_shares, PAIR, flow, shares)
        self.gives(False, is_shares, IDLE, 0, (I, Z))
        self.gives(False, is_shares, IDLE, 0, (I, (-1, 1)))

    def test_shares_of_no_kind_and_spoiled_ones(self):
        for net in [PAIR, IDLE, NO_LINKS]:
            for flow, (demand, ways) in enumerate(net[1]):
                for thing in ODD_VALUES:
                    self.gives(False, is_shares, net, flow, thing)
                for thing in spoiled((demand,) + (Z,) * (len(ways) - 1)):
                    self.gives(plainly_shares(net, flow, thing), is_shares, net, flow, thing)

    def test_splits(self):
        self.gives(True, is_split, PAIR, ((H, H), (H,)))
        self.gives(True, is_split, NOTHING, ())
        self.gives(True, is_split, NO_FLOWS, ())
        not_let = (((1, 2),), PAIR[1][1:] * 2)
        self.gives(False, is_split, not_let, ((H,), (I,)))
        for thing in [
            ((H, H), (I,)), ((H, I), (H,)), ((H,), (H, H)), ((H, H),), ((H, H), (H,), ()), ((H, H), (H,), (H,)),
            [(H, H), (H,)], ([H, H], (H,)), ((H, H), H), ((H, H), ((1, 2, 1),)), ((I, (False, 1)), (H,)), ((), ()), (),
        ]:
            self.gives(False, is_split, PAIR, thing)
        self.gives(False, is_split, NOTHING, [])
        self.gives(False, is_split, NO_FLOWS, ((),))

    def test_splits_that_are_not_let(self):
        narrow = ((Z, Z), PAIR[1])
        self.gives(True, is_split, narrow, ((I, Z), (H,)))
        self.gives(True, is_split, narrow, ((H, H), (H,)))
        self.gives(False, is_split, narrow, ((I, I), (H,)))

    def test_splits_of_no_kind_and_spoiled_ones(self):
        for net, splits in [(PAIR, [((H, H), (H,))]), *cases(4)]:
            for thing in ODD_VALUES:
                self.gives(False, is_split, net, thing)
            for split in splits:
                self.gives(True, is_split, net, split)
                for thing in spoiled(split):
                    self.gives(plainly_split(net, thing), is_split, net, thing)

    def test_lots(self):
        for many in range(6):
            for lot in lots(5):
                self.gives(max(lot, default=-1) < many, is_lot, many, lot)
                for thing in spoiled(lot):
                    self.gives(plainly_lot(many, thing), is_lot, many, thing)
        for many, thing in [
            (3, (1, 0)), (3, (0, 0)), (3, (0, 1, 1)), (3, (0, 2, 1)), (3, (3,)), (3, (0, 3)), (3, (-1,)), (3, (-1, 0)),
            (3, (True,)), (3, (0, True)), (3, (False,)), (3, (False, 1)), (3, ("0",)), (3, (None,)), (3, ((0,),)),
            (3, [0]), (3, []), (3, {}), (3, {0: 0}), (3, 0), (3, None), (3, "0"), (0, (0,)), (1, (1,)), (1, (0, 1)),
            (3, ((),)), (3, (0, ())), (3, (0, [1])),
        ]:
            self.gives(False, is_lot, many, thing)
        for thing in ODD_VALUES:
            self.gives(repr(thing) == "(1,)", is_lot, 3, thing)

    def test_lots_of_many_indexes(self):
        self.gives(True, is_lot, 3000, tuple(range(3000)))
        self.gives(False, is_lot, 2999, tuple(range(3000)))
        self.gives(False, is_lot, 3000, tuple(range(2999)) + (2998,))

    def test_prices(self):
        net = ((I, I, I), ())
        for lot, thing in [
            ((), (Z, Z, Z)), ((0,), (I, Z, Z)), ((0, 2), ((1, 7), Z, TWO)), ((0, 1, 2), (I, I, (10 ** 39, 7))),
        ]:
            self.gives(True, is_prices, net, lot, thing)
            for other in lots(3):
                self.gives(other == lot, is_prices, net, other, thing)
        for thing in [
            (I, Z), (I, Z, Z, Z), [I, Z, Z], ((-1, 1), Z, Z), (I, (-1, 1), Z), (I, I, Z), (Z, Z, Z), (Z, I, Z),
            ((2, 2), Z, Z), (I, (0, 2), Z), ((True, 1), Z, Z), (I, (False, 1), Z), (I, 0, 0), (I, None, Z), ([1, 1], Z, Z),
            ((1, 0), Z, Z), ((1, -1), Z, Z), (),
        ]:
            self.gives(False, is_prices, net, (0,), thing)
        self.gives(True, is_prices, NOTHING, (), ())
        self.gives(False, is_prices, NOTHING, (), (Z,))
        self.gives(False, is_prices, NOTHING, (), [])

    def test_prices_of_no_kind_and_spoiled_ones(self):
        net = ((I, Z, I), PAIR[1])
        for lot in lots(3):
            for thing in ODD_VALUES:
                self.gives(False, is_prices, net, lot, thing)
            for thing in spoiled(tuple((3, 2) if link in lot else Z for link in range(3))):
                self.gives(plainly_prices(net, lot, thing), is_prices, net, lot, thing)

    def test_costs(self):
        for net, thing in [
            (PAIR, ((Z, I), (I,))), (PAIR, (((-1, 1), (-7, 3)), ((-1, 10 ** 39),))), (PAIR, ((Z, Z), (Z,))),
            (NOTHING, ()), (NO_FLOWS, ()), (NO_LINKS, ((I, (-1, 2)), (Z,))),
        ]:
            self.gives(True, is_costs, net, thing)
        for thing in [
            ((Z, I),), ((Z, I), (I,), ()), ((Z,), (I,)), ((Z, I, I), (I,)), ((Z, I), (I, I)), ((Z, I), ()), ((Z, I), I),
            [(Z, I), (I,)], ([Z, I], (I,)), ((Z, I), [I]), ((Z, [1, 1]), (I,)), ((0, 1), (I,)), ((Z, (2, 2)), (I,)),
            ((Z, (-2, 4)), (I,)), ((Z, (1, -1)), (I,)), ((Z, (1, 0)), (I,)), ((Z, (True, 1)), (I,)), ((Z, None), (I,)),
        ]:
            self.gives(False, is_costs, PAIR, thing)
        self.gives(False, is_costs, NO_FLOWS, ((),))
        self.gives(False, is_costs, NO_FLOWS, [])

    def test_costs_of_no_kind_and_spoiled_ones(self):
        costs = ((Z, (-1, 2)), ((5, 3),))
        for thing in ODD_VALUES:
            self.gives(False, is_costs, PAIR, thing)
        for thing in spoiled(costs):
            self.gives(plainly_costs(PAIR, thing), is_costs, PAIR, thing)


if __name__ == "__main__":
    unittest.main()
