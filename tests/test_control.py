"""[31], and what [10] says of flows that take orders one behind the other."""

import random
import unittest
from fractions import Fraction

from neverjammed.control import Control
from neverjammed.desk import Desk
from neverjammed.errors import Jammed, JamError, NoFlow, NoLink, NoOrder, Wrong
from tests.helper import (
    Case, H, I, NETS, NOTHING, NO_FLOWS, NO_LINKS, ODD_VALUES, TWO, Z, cases, fits, fraction, let_grid, loads, long_shares,
    number, some_split, some_uneven, spoiled, tight_cases,
)
from tests.page import Page
from tests.plain import plainly_net, plainly_split

LEFT, RIGHT, SPARE = (I, Z, Z), (Z, I, Z), (Z, Z, I)
NET = ((I, I, I), ((I, (LEFT, RIGHT, SPARE)), (I, (LEFT, RIGHT))))
HERE, ASIDE, THERE = ((I, Z, Z), (Z, I)), ((Z, Z, I), (Z, I)), ((Z, Z, I), (I, Z))


def refused(function, *arguments):
    """The error that a call raises, None if it raises none."""
    try:
        function(*arguments)
    except JamError as error:
        return error
    return None


def starts():
    """Tuples (net, split, others): a net, a let split, and splits to order, let or not."""
    chance = random.Random(31)
    found = [(NET, HERE, [HERE, ASIDE, THERE])]
    for net, splits in tight_cases(20) + cases(8, True):
        found.append((net, splits[0], [*splits, *[some_split(chance, net[1]) for _ in range(2)]]))
    for _ in range(8):
        net, full, splits = some_uneven(chance)
        found.append((net, full, [*splits, *let_grid(net)[:4], some_split(chance, net[1])]))
    # With room to spare more orders are under way.
    for net, splits in cases(6, True):
        wide = tuple(fraction(2 * number(room)) for room in net[0]), net[1]
        found.append((wide, splits[0], list(splits)))
    return found


class ControlTest(Case):

    def compare(self, control, page, splits):
        """All that a Control tells is what stands on the page."""
        net = page.net
        for flow in range(len(net[1])):
            self.gives(page.pending(flow), control.pending, flow)
        self.assertEqual([number(load) for load in control.worst_loads()], page.worst_loads())
        self.assertIs(type(control.worst_loads()), tuple)
        for link in range(len(net[0])):
            self.gives(page.worst_numbers(link), control.worst_numbers, link)
        self.gives(page.sure(), control.sure_split)
        standing = page.standing()
        for split in splits:
            jam = page.jam(split)
            self.gives(jam is None, control.can_order, split)
            self.gives(page.must_hear(split), control.must_hear, split)
            self.gives(split in standing, control.may_stand, split)
        for split in standing[:4] + standing[-4:]:
            self.gives(True, control.may_stand, split)
            self.assertTrue(fits(net, split))

    def gives(self, expected, function, *arguments):
        super().gives(expected, function, *arguments)
        super().gives(expected, function, *arguments)

    def test_orders_beside_a_page(self):
        chance = random.Random(32)
        seen = {}
        for net, split, others in starts():
            control, page = Control(net, split), Page(net, split)
            for step in range(9):
                what = chance.choice(["order", "order", "heard", "heard", "again"])
                if what == "order" and len(page.standing()) < 40:
                    other = chance.choice(others)
                    jam = page.jam(other)
                    if jam is None:
                        self.assertEqual(control.order(other), page.order(other))
                    else:
                        before = control.twin()
                        error = refused(control.order, other)
                        self.assertEqual((type(error), error.link), (Jammed, jam))
                        self.assertEqual(control, before)
                    seen[what, jam is None] = True
                elif net[1]:
                    flow = chance.randrange(len(net[1]))
                    told = chance.randrange(len(page.orders))
                    seen["elder", told < page.last[flow]] = True
                    self.assertIsNone(control.heard(flow, told))
                    page.heard(flow, told)
                if step % 3 == 2:
                    self.compare(control, page, chance.sample(others, min(3, len(others))))
                seen["sure", page.sure() is None] = True
                seen["hear", len(page.must_hear(others[-1]))] = True
        for case in [("order", True), ("order", False), ("elder", True), ("sure", True), ("hear", 0), ("hear", 1)]:
            self.assertIn(case, seen)

    def test_by_hand(self):
        control = Control(NET, HERE)
        self.gives(False, control.can_order, THERE)
        error = refused(control.order, THERE)
        self.assertEqual((type(error), error.link), (Jammed, 0))
        self.assertEqual(control.order(ASIDE), 1)
        self.gives((I, I, I), control.worst_loads)
        self.gives([(0,)], control.must_hear, THERE)
        self.gives([(0, (I, Z, Z)), (1, (Z, Z, I))], control.pending, 0)
        self.gives([(0, (Z, I)), (1, (Z, I))], control.pending, 1)
        self.gives(None, control.sure_split)
        self.gives((0, 0), control.worst_numbers, 0)
        self.gives((0, 0), control.worst_numbers, 1)
        self.gives((1, 0), control.worst_numbers, 2)
        self.gives(True, control.may_stand, HERE)
        self.gives(True, control.may_stand, ASIDE)
        self.gives(False, control.may_stand, THERE)
        self.assertIsNone(control.heard(0, 1))
        self.gives(ASIDE, control.sure_split)
        self.gives([()], control.must_hear, THERE)
        # What was heard of an elder order changes nothing.
        self.assertIsNone(control.heard(0, 0))
        self.gives([(1, (Z, Z, I))], control.pending, 0)
        self.assertEqual(control.order(THERE), 2)
        self.gives((1, 2), control.worst_numbers, 0)
        self.gives((1, 0), control.worst_numbers, 1)
        # Flow 1 may hold the links 0 and 1 as long as it was not heard of.
        self.gives([], control.must_hear, ((I, Z, Z), (I, Z)))
        self.gives([(1,)], control.must_hear, ((Z, I, Z), (I, Z)))

    def test_must_hear_the_least_lots(self):
        # Three flows leave a link of room 3 one by one; a fourth one waits for room for two, or for one.
        flows = ((I, ((I,), (Z,))),) * 3 + ((TWO, ((Z,), (I,))),)
        net = ((3, 1),), flows
        control = Control(net, ((I, Z),) * 3 + ((TWO, Z),))
        self.assertEqual(control.order(((Z, I),) * 3 + ((TWO, Z),)), 1)
        self.gives([(0, 1), (0, 2), (1, 2)], control.must_hear, ((Z, I),) * 3 + ((Z, TWO),))
        self.gives([(0,), (1,), (2,)], control.must_hear, ((Z, I),) * 3 + ((I, I),))
        self.gives([()], control.must_hear, ((I, Z),) * 3 + ((TWO, Z),))
        self.gives([], control.must_hear, ((I, Z),) * 3 + ((I, I),))
        self.gives([], control.must_hear, ((I, Z), (I, Z), (Z, I), (Z, TWO)))
        control.heard(1, 1)
        self.gives([(0,), (2,)], control.must_hear, ((Z, I),) * 3 + ((Z, TWO),))

    def test_what_is_handed_in(self):
        for thing in ODD_VALUES + (Control(NET, HERE), Desk("rooms 1"), HERE, (NET, HERE)):
            for split in [HERE, None, thing]:
                error = refused(Control, thing, split)
                self.assertEqual((type(error), error.place), (Wrong, 0))
            error = refused(Control, NET, thing)
            if thing == HERE:
                self.assertIsNone(error)
                continue
            self.assertEqual((type(error), error.place), (Wrong, 1))
            control = Control(NET, HERE)
            error = refused(control.order, thing)
            self.assertEqual((type(error), error.place), (Wrong, 0))
            self.gives(False, control.can_order, thing)
            self.gives(False, control.may_stand, thing)
            self.assertEqual(control, Control(NET, HERE))
        # A split that is not let, and those of other nets.
        for split, place in [(((I, Z, Z), (I, Z)), 1), (HERE[:1], 1), ((), 1), (((H, H, H), (Z, I)), 1)]:
            error = refused(Control, NET, split)
            self.assertEqual((type(error), error.place), (Wrong, place))
        net = ((I, (1, 2)), ((I, ((I, Z), (Z, H))),))
        for thing in spoiled(net):
            error = refused(Control, thing, ((I, Z),))
            if not plainly_net(thing):
                self.assertEqual((type(error), error.place), (Wrong, 0))
            elif not plainly_split(thing, ((I, Z),)) or not fits(thing, ((I, Z),)):
                self.assertEqual((type(error), error.place), (Wrong, 1))
            else:
                self.assertIsNone(error)
        for thing in spoiled(HERE):
            is_so = plainly_split(NET, thing) and fits(NET, thing)
            self.assertEqual(type(refused(Control, NET, thing)), type(None) if is_so else Wrong)

    def test_splits_of_any_value(self):
        control, page = Control(NET, HERE), Page(NET, HERE)
        for one in [control, page]:
            one.order(ASIDE)
            one.heard(0, 1)
            one.order(THERE)
        for base in [HERE, ASIDE, THERE]:
            for thing in spoiled(base):
                is_split = plainly_split(NET, thing)
                self.gives(is_split and page.jam(thing) is None, control.can_order, thing)
                self.gives(is_split and thing in page.standing(), control.may_stand, thing)
                if not is_split:
                    error = refused(control.order, thing)
                    self.assertEqual((type(error), error.place), (Wrong, 0))
        self.gives(False, control.may_stand, (((0, True), I), (I, Z)))
        self.gives(False, control.may_stand, (((0, True), (0, True), (True, True)), ((True, True), (0, True))))

    def test_flows_links_and_numbers_of_any_value(self):
        control = Control(NET, HERE)
        control.order(ASIDE)
        for thing in ODD_VALUES + (Control(NET, HERE), 2, 3, -2, "0", [0], (0,), HERE, 10 ** 40):
            is_index = type(thing) is int and thing in (0, 1)
            for number_of in [0, 1, 7, None, thing]:
                error = refused(control.twin().heard, thing, number_of)
                if not is_index:
                    self.assertIs(type(error), NoFlow)
                    self.assertIs(error.flow, thing)
                elif type(number_of) is not int or number_of not in (0, 1):
                    self.assertIs(type(error), NoOrder)
                    self.assertIs(error.number, number_of)
                else:
                    self.assertIsNone(error)
            error = refused(control.heard, 1, thing)
            self.assertIs(type(error), type(None) if is_index else NoOrder)
            self.assertTrue(is_index or error.number is thing)
            error = refused(control.pending, thing)
            self.assertIs(type(error), type(None) if is_index else NoFlow)
            self.assertTrue(is_index or error.flow is thing)
            error = refused(control.worst_numbers, thing)
            is_link = type(thing) is int and thing in (0, 1, 2)
            self.assertIs(type(error), type(None) if is_link else NoLink)
            self.assertTrue(is_link or error.link is thing)
        fresh = Control(NET, HERE)
        fresh.order(ASIDE)
        fresh.heard(1, 1)
        self.assertEqual(control, fresh)

    def test_nets_with_nothing(self):
        for net, split in [(NO_FLOWS, ()), (NOTHING, ()), (NO_LINKS, ((I, Z), (H,)))]:
            control, page = Control(net, split), Page(net, split)
            other = ((Z, I), (H,)) if net == NO_LINKS else ()
            for _ in range(3):
                self.assertEqual(control.order(other), page.order(other))
                self.compare(control, page, [split, other])
            for flow in range(len(net[1])):
                self.assertIsNone(control.heard(flow, 2))
                page.heard(flow, 2)
            self.compare(control, page, [split, other])
            for flow in [len(net[1]), -1, None]:
                self.assertIs(type(refused(control.pending, flow)), NoFlow)
                self.assertIs(type(refused(control.heard, flow, None)), NoFlow)
            self.assertIs(type(refused(control.worst_numbers, len(net[0]))), NoLink)
        control = Control(NO_FLOWS, ())
        self.gives((Z, Z, Z), control.worst_loads)
        self.gives((), control.worst_numbers, 1)
        self.gives((), control.sure_split)
        self.gives([()], control.must_hear, ())
        self.gives(True, control.may_stand, ())

    def test_twins_go_their_own_ways(self):
        control = Control(NET, HERE)
        twin = control.twin()
        self.assertIs(type(twin), Control)
        self.assertIsNot(twin, control)
        self.assertTrue(twin == control)
        control.order(ASIDE)
        self.assertFalse(twin == control)
        self.gives([(0, (I, Z, Z))], twin.pending, 0)
        self.assertEqual(twin.order(ASIDE), 1)
        self.assertTrue(twin == control)
        twin.heard(0, 1)
        self.assertFalse(twin == control)
        self.gives(2, lambda: len(control.pending(0)))
        later = twin.twin()
        later.order(THERE)
        later.heard(1, 2)
        self.gives([(1, (Z, I))], lambda: twin.pending(1)[1:])
        self.gives(ASIDE, twin.sure_split)
        control.heard(0, 1)
        self.assertTrue(twin == control)

    def test_equal_to_nothing_else(self):
        control = Control(NET, HERE)
        for thing in ODD_VALUES + (NET, HERE, (NET, HERE), Page(NET, HERE), Desk("rooms 1")):
            self.assertFalse(control == thing)
            self.assertFalse(thing == control)
            self.assertTrue(control != thing)
        self.assertTrue(control == Control(NET, HERE))
        self.assertFalse(control != Control(NET, HERE))
        self.assertIs(control == Control(NET, HERE), True)
        self.assertFalse(control == Control(NET, ASIDE))
        self.assertFalse(control == Control((((I, I, TWO)), NET[1]), HERE))
        # The same orders, but heard of otherwise; the same shares under way, but by other orders.
        one, other = Control(NET, HERE), Control(NET, HERE)
        one.order(HERE)
        self.assertFalse(one == other)
        self.assertFalse(one == control)
        other.order(HERE)
        self.assertTrue(one == other)
        one.heard(0, 1)
        self.assertFalse(one == other)
        other.heard(1, 1)
        self.assertFalse(one == other)
        one.heard(1, 1)
        other.heard(0, 1)
        self.assertTrue(one == other)
        self.assertFalse(one == Control(NET, HERE))

    def test_what_is_told_may_be_changed(self):
        control = Control(NET, HERE)
        control.order(ASIDE)
        for function, argument in [(control.pending, 0), (control.must_hear, THERE)]:
            told = function(argument)
            before = list(told)
            self.assertIsNot(told, function(argument))
            told.clear()
            self.assertEqual(function(argument), before)
        self.assertIsNone(control.heard(1, 0))

    def test_long_numbers_are_exact(self):
        chance = random.Random(33)
        for _ in range(5):
            rows = [long_shares(chance, I, 2) for _ in range(3)]
            flows = ((I, ((I,), (Z,))), (I, ((I,), (Z,))))
            one, other = (rows[0], rows[1]), (rows[1], rows[2])
            worst = sum(max(number(a[0]), number(b[0])) for a, b in zip(one, other))
            room = max(worst, loads(((Z,), flows), one)[0])
            control = Control(((fraction(room),), flows), one)
            self.assertEqual(control.order(other), 1)
            self.gives((fraction(worst),), control.worst_loads)
            tight = fraction(room - Fraction(1, 10 ** 200))
            if loads(((Z,), flows), one)[0] <= number(tight):
                self.gives(False, Control(((tight,), flows), one).can_order, other)

    def test_many_orders(self):
        wide = ((TWO, TWO, TWO), NET[1])
        control, page = Control(wide, HERE), Page(wide, HERE)
        for step in range(120):
            split = [HERE, ASIDE, THERE][step % 3]
            self.assertEqual(control.order(split), page.order(split))
        self.gives(page.pending(0), control.pending, 0)
        self.assertEqual(len(control.pending(1)), 121)
        self.gives((TWO, I, I), control.worst_loads)
        self.gives((0, 3), control.worst_numbers, 0)
        for flow in range(2):
            control.heard(flow, 119)
        self.gives((I, I, I), control.worst_loads)

    def test_splits_of_the_nets_here(self):
        for net in NETS:
            for split in let_grid(net)[:3]:
                self.compare(Control(net, split), Page(net, split), let_grid(net)[:3])


if __name__ == "__main__":
    unittest.main()
