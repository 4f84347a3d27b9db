"""[17]: orders and waves, against all lots, all orders and all divisions into lots."""

import random
import unittest
from itertools import combinations, permutations

from neverjammed.orders import are_waves, clean_order, is_order, let_lots, orders_many, waves_of
from tests.helper import (
    Case, H, I, NOTHING, NO_FLOWS, NO_LINKS, ODD_VALUES, TWO, Z, fits, fraction, loads, lots, some_shares, spoiled,
    taken_over,
)

FLOWS = ((I, ((I,), (Z,))), (I, ((I,), (Z,))))
HERE, THERE = ((I, Z), (Z, I)), ((Z, I), (I, Z))


def some_takeover(chance, flows_many, ease):
    """A net with a turn for which an order chosen by chance is clean, or just not, if it is not easy."""
    links = chance.randrange(1, 4)
    flows = tuple(
        (chance.choice([Z, I, I, TWO]), tuple(tuple(chance.choice([Z, Z, H, I]) for _ in range(links)) for _ in range(2)))
        for _ in range(flows_many)
    )
    one, other = [tuple(some_shares(chance, demand, len(ways)) for demand, ways in flows) for _ in range(2)]
    order = chance.sample(range(flows_many), flows_many)
    amid = [taken_over(one, other, tuple(sorted(order[:k]))) for k in range(flows_many + 1)]
    if ease == "hard":
        amid = amid[:1] + amid[1:-1][:1]
    elif ease == "ends":
        amid = [one, other]
    elif ease == "easy":
        amid = [taken_over(one, other, lot) for lot in lots(flows_many)]
    rows = [loads(((Z,) * links, flows), split) for split in amid]
    rooms = tuple(fraction(max(row[link] for row in rows)) for link in range(links))
    return (rooms, flows), one, other


def some_chain(chance, many, wide):
    """A turn in which each flow takes the place of the next one in some row, but for so many wide links."""
    places = chance.sample(range(many), many)
    unit = [tuple(I if link == place else Z for link in range(many + 1)) for place in range(many + 1)]
    rooms = [I] * (many + 1)
    for link in chance.sample(range(1, many + 1), wide):
        rooms[link] = TWO
    flows = tuple((I, (unit[place], unit[place + 1])) for place in places)
    return (tuple(rooms), flows), ((I, Z),) * many, ((Z, I),) * many


def takeovers():
    """Turns of none to five flows, between splits that are let or not."""
    chance = random.Random(17)
    found = [some_takeover(chance, many, ease) for many in range(6) for ease in ("chain", "hard", "ends", "easy")
             for _ in range(4)]
    found += [some_chain(chance, many, wide) for many in range(2, 6) for wide in range(3)]
    # Where no split is let, and with the other end alone let.
    net, one, other = found[-1]
    found.append((((Z,) * len(net[0]), net[1]), one, other))
    found.append((((I,), FLOWS), ((I, Z), (I, Z)), HERE))
    found.append((((I,), FLOWS), HERE, ((I, Z), (I, Z))))
    return found


def lets_of(net, one, other):
    return [lot for lot in lots(len(one)) if fits(net, taken_over(one, other, lot))]


def plainly_order(lets, many, thing):
    if type(thing) is not tuple or [type(flow) for flow in thing] != [int] * many or set(thing) != set(range(many)):
        return False
    return all(tuple(sorted(thing[:size])) in lets for size in range(many + 1))


def plainly_waves(lets, many, thing):
    if type(thing) is not tuple or not all(type(lot) is tuple and lot != () for lot in thing):
        return False
    flows = [flow for lot in thing for flow in lot]
    if [type(flow) for flow in flows] != [int] * many or set(flows) != set(range(many)):
        return False
    if not all(lot == tuple(sorted(lot)) for lot in thing):
        return False
    gone = ()
    for lot in thing:
        parts = [part for size in range(len(lot) + 1) for part in combinations(lot, size)]
        if not all(tuple(sorted(gone + part)) in lets for part in parts):
            return False
        gone += lot
    return True


def divisions(flows):
    """All tuples of lots, none of them (), in which each flow stands just once."""
    if not flows:
        return [()]
    return [
        (lot,) + rest
        for size in range(1, len(flows) + 1) for lot in combinations(flows, size)
        for rest in divisions(tuple(flow for flow in flows if flow not in lot))
    ]


class OrdersTest(Case):

    def test_by_hand(self):
        for room, lets, waves in [
            ((3, 2), [(), (0,), (0, 1)], ((0,), (1,))), (TWO, [(), (0,), (0, 1), (1,)], ((0, 1),)), (H, [(0,)], None),
        ]:
            net = ((room,), FLOWS)
            self.gives(lets, let_lots, net, HERE, THERE)
            self.gives(waves, waves_of, net, HERE, THERE)
        self.gives(2, orders_many, ((TWO,), FLOWS), HERE, THERE)
        self.gives((0, 1), clean_order, ((I,), FLOWS), HERE, THERE)
        self.gives((1, 0), clean_order, ((I,), FLOWS), THERE, HERE)
        self.gives(None, clean_order, ((H,), FLOWS), HERE, THERE)
        self.gives(0, orders_many, ((H,), FLOWS), HERE, THERE)

    def test_nets_with_nothing(self):
        for net in (NO_FLOWS, NOTHING):
            self.gives([()], let_lots, net, (), ())
            self.gives((), clean_order, net, (), ())
            self.gives(1, orders_many, net, (), ())
            self.gives((), waves_of, net, (), ())
            self.gives(True, is_order, net, (), (), ())
            self.gives(True, are_waves, net, (), (), ())
            for thing in [*ODD_VALUES, (0,), [()], ((),), ((0,),)]:
                self.gives(False, is_order, net, (), (), thing)
                self.gives(False, are_waves, net, (), (), thing)
        one, other = ((I, Z), (H,)), ((Z, I), (H,))
        self.gives([(), (0,), (0, 1), (1,)], let_lots, NO_LINKS, one, other)
        self.gives((0, 1), clean_order, NO_LINKS, one, other)
        self.gives(2, orders_many, NO_LINKS, one, other)
        self.gives(((0, 1),), waves_of, NO_LINKS, one, other)

    def test_lots_and_orders(self):
        seen = {}
        for net, one, other in takeovers():
            lets, many = lets_of(net, one, other), len(one)
            self.gives(sorted(lets), let_lots, net, one, other)
            orders = [order for order in permutations(range(many)) if plainly_order(lets, many, order)]
            self.gives(min(orders) if orders else None, clean_order, net, one, other)
            self.gives(len(orders), orders_many, net, one, other)
            for order in permutations(range(many)):
                self.gives(order in orders, is_order, net, one, other, order)
            seen[many, min(len(orders), 2)] = True
        for many in range(2, 6):
            self.assertTrue(all((many, count) in seen for count in range(3)), (many, seen))

    def test_the_least_order_is_not_the_first_flow_that_may(self):
        # The flow 0 may go first, but then no other one can follow.
        net = (((3, 2), I), ((I, ((Z, Z), (I, Z))), (I, ((Z, Z), (H, I))), (I, ((H, I), (Z, Z)))))
        one, other = ((I, Z), (I, Z), (I, Z)), ((Z, I), (Z, I), (Z, I))
        self.gives([(), (0,), (0, 1, 2), (0, 2), (1, 2), (2,)], let_lots, net, one, other)
        self.gives((0, 2, 1), clean_order, net, one, other)
        net = ((I, I), net[1])
        self.gives([(), (0, 2), (1, 2), (2,)], let_lots, net, one, other)
        self.gives(None, clean_order, net, one, other)
        # Each of them may go first, but the flow 1 never behind the flow 0.
        net = ((I, I), ((I, ((Z, Z), (I, Z))), (I, ((I, Z), (Z, I)))))
        one, other = ((I, Z), (I, Z)), ((Z, I), (Z, I))
        self.gives((1, 0), clean_order, net, one, other)
        self.gives(((1,), (0,)), waves_of, net, one, other)

    def test_waves(self):
        seen = {}
        for net, one, other in takeovers():
            lets, many = lets_of(net, one, other), len(one)
            found = []
            for waves in divisions(tuple(range(many))):
                is_clean = plainly_waves(lets, many, waves)
                self.assertIs(are_waves(net, one, other, waves), is_clean)
                if is_clean:
                    found.append(waves)
            told = waves_of(net, one, other)
            self.gives(told, waves_of, net, one, other)
            self.assertEqual(told is None, found == [])
            self.assertEqual(found == [], orders_many(net, one, other) == 0)
            if found:
                self.assertIn(told, found)
                self.assertEqual(len(told), min(len(waves) for waves in found))
                seen[many, len(told)] = True
        self.assertTrue(all((5, count) in seen for count in (1, 2, 3, 5)), seen)

    def test_any_values(self):
        # All flows at once, or the flow 2 ahead of both others, or all others ahead of it.
        flows = ((I, ((Z,), (I,))),) * 2 + ((I, ((I,), (Z,))),)
        one, other = ((I, Z),) * 3, ((Z, I),) * 3
        for room, waves in [((3, 1), ((0, 1, 2),)), (TWO, ((0, 2), (1,))), (I, None), ((5, 2), ((0, 2), (1,)))]:
            net = ((room,), flows)
            lets = lets_of(net, one, other)
            if waves is None:
                self.gives(None, waves_of, net, one, other)
            for thing in [*ODD_VALUES, (0, 1), (0, 1, 2, 2), (0, 0, 1, 2), (0, 1, 3), (-1, 0, 1), [0, 1, 2], ((0,), (1,), (2,))]:
                self.gives(False, is_order, net, one, other, thing)
            for order in permutations(range(3)):
                for thing in spoiled(order):
                    self.gives(plainly_order(lets, 3, thing), is_order, net, one, other, thing)
            for thing in [
                *ODD_VALUES, ((0, 1, 2), ()), ((), (0, 1, 2)), ((0, 1), (1, 2)), ((0,), (1,)), ((2, 1, 0),), ((0, 1, 2, 3),),
                [(0, 1, 2)], ([0, 1, 2],), (0, 1, 2), ((2,), (1, 0)), ((0, 0, 1, 2),), ((2,), (0,), (1,), (0,)),
                ((False, True, 2),), ((2,), (0, True)), ((2,), (0, 1), (1,)), ((2,), ((0,), 1)),
            ]:
                self.gives(False, are_waves, net, one, other, thing)
            for division in divisions((0, 1, 2)):
                for thing in [*spoiled(division), division[::-1], (division,), division + division]:
                    self.gives(plainly_waves(lets, 3, thing), are_waves, net, one, other, thing)

    def test_lots_that_are_returned_may_be_changed(self):
        net = (((3, 2),), FLOWS)
        let_lots(net, HERE, THERE).clear()
        let_lots(net, HERE, THERE).append(None)
        self.gives([(), (0,), (0, 1)], let_lots, net, HERE, THERE)
        self.gives((0, 1), clean_order, net, HERE, THERE)
        self.gives(((0,), (1,)), waves_of, net, HERE, THERE)

    def test_a_whole_wave_has_to_be_clean_and_not_its_last_midst_alone(self):
        # Both ends are let, each flow alone is not.
        net = ((I, I), ((I, ((I, Z), (Z, I))), (I, ((Z, I), (I, Z)))))
        one, other = ((I, Z), (I, Z)), ((Z, I), (Z, I))
        self.gives([(), (0, 1)], let_lots, net, one, other)
        self.gives(None, waves_of, net, one, other)
        self.gives(None, clean_order, net, one, other)
        self.gives(False, are_waves, net, one, other, ((0, 1),))


if __name__ == "__main__":
    unittest.main()
