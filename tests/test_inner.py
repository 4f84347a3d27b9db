"""[28], INNER and FREE of [2], and what [9] says of them."""

import random
import unittest
from fractions import Fraction

from neverjammed.errors import NoneLet
from neverjammed.inner import inner_split, is_inner, is_none_paper, let_split, need_of
from neverjammed.joining import are_joined, road_between
from neverjammed.loosening import loosened
from neverjammed.nets import net_beside, with_demand, with_room
from tests.helper import (
    Case, H, I, NOTHING, NO_FLOWS, NO_LINKS, ODD_VALUES, TWO, Z, burdened, cases, fits, fraction, let_grid, long_shares, mixed, number,
    some_chain, some_uneven, spoiled, tight_cases,
)
from tests.plain import plainly_none_paper, plainly_split, plainly_thinned

NET = ((I, I), ((I, ((I, Z), (Z, I))), (I, ((I, Z), (Z, I)))))
SMALL = ((I, I), ((I, ((I, Z), (Z, I))), (I, ((H, Z), (Z, I)))))
HERE, THERE = ((I, Z), (Z, I)), ((Z, I), (I, Z))


def nets():
    """Tuples (net, splits) with some let splits of each net."""
    chance = random.Random(28)
    found = tight_cases(110) + cases(30, True)
    for _ in range(30):
        net, full, splits = some_uneven(chance)
        found.append((net, (full, *splits)))
    return found


class InnerTest(Case):

    def refuses(self, net):
        """No split is let, as one and the same paper shows."""
        papers = []
        for function in [let_split, inner_split, need_of]:
            before = repr(net)
            with self.assertRaises(NoneLet) as caught:
                function(net)
            papers.append(caught.exception.paper)
            self.assertEqual(repr(net), before)
        for paper in papers:
            self.assertTrue(plainly_none_paper(net, paper))
            self.gives(True, is_none_paper, net, paper)
        self.assertEqual(papers[0], papers[2])

    def holds(self, net, splits):
        """All that is said of a net with let splits; returns its need."""
        split, inner = let_split(net), inner_split(net)
        self.gives(split, let_split, net)
        self.gives(inner, inner_split, net)
        for one in (split, inner):
            self.assertTrue(plainly_split(net, one) and fits(net, one))
        need = plainly_thinned(net, inner)[-1]
        self.gives(need, need_of, net)
        for one in (split, inner, *splits):
            lock = plainly_thinned(net, one)[-1]
            self.assertLessEqual(set(need), set(lock))
            self.gives(lock == need, is_inner, net, one)
        return need

    def test_by_hand(self):
        self.assertEqual(self.holds(NET, [HERE, THERE, mixed(HERE, THERE, Fraction(1, 3))]), (0, 1))
        self.gives(True, is_inner, NET, HERE)
        self.assertEqual(self.holds(SMALL, [HERE, THERE]), ())
        self.gives(False, is_inner, SMALL, HERE)
        for part in [Fraction(1), Fraction(1, 2), Fraction(1, 10 ** 60)]:
            self.gives(True, is_inner, SMALL, mixed(HERE, THERE, part))
        self.assertEqual(self.holds(with_room(NET, 0, TWO), [HERE, THERE]), ())
        # A link of room 0 is locked at each split, whatever else is free.
        net = ((Z, TWO, I), ((I, ((Z, I, Z), (Z, Z, I), (I, Z, Z))),))
        self.assertEqual(self.holds(net, [((I, Z, Z),), ((Z, I, Z),), ((H, H, Z),)]), (0,))

    def test_where_the_least_load_is_locked(self):
        # The one with the most room left of all is locked, and so is the other one: their mean is free.
        net = burdened(SMALL, HERE)
        self.assertEqual(self.holds(net, [HERE, THERE, mixed(HERE, THERE, Fraction(1, 2))]), ())
        self.gives(False, is_inner, net, HERE)
        both = burdened(net_beside(SMALL, SMALL), HERE + THERE)
        splits = [HERE + HERE, HERE + THERE, THERE + HERE, THERE + THERE]
        self.assertEqual(self.holds(both, splits), ())
        # Of three places each corner is locked.
        unit = ((I, Z, Z), (Z, I, Z), (Z, Z, I))
        ways = [(unit[0], unit[1]), (unit[1], unit[2]), (unit[2], (H, Z, Z))]
        net = (I, I, I), tuple((I, row) for row in ways)
        for split in [((I, Z),) * 3, ((Z, I),) * 3]:
            self.assertEqual(self.holds(burdened(net, split), let_grid(net)), ())

    def test_none_is_let_by_a_hundredth(self):
        for part in [Fraction(1, 100), Fraction(1, 10 ** 9)]:
            for link in range(2):
                self.refuses(with_room(NET, link, fraction(1 - part)))
                self.holds(with_room(NET, link, fraction(1 + part)), [])
            self.refuses(with_demand(NET, 0, fraction(1 + part)))
            self.holds(with_demand(NET, 1, fraction(1 - part)), [])
            self.holds(with_room(SMALL, 0, fraction(1 - part)), [THERE])

    def test_nets_with_nothing(self):
        self.assertEqual(self.holds(NO_LINKS, [((I, Z), (H,))]), ())
        self.assertEqual(self.holds(NOTHING, [()]), ())
        self.assertEqual(self.holds(NO_FLOWS, [()]), (1,))
        self.gives((), inner_split, NO_FLOWS)
        # Without a demand nothing is borne, so that all is let.
        net = ((Z, I), ((Z, ((I, I), (TWO, Z))), (Z, ((I, I),))))
        self.assertEqual(self.holds(net, [((Z, Z), (Z,))]), (0,))
        self.refuses(with_demand(net, 1, (1, 10 ** 9)))
        self.refuses(with_demand(with_room(net, 0, TWO), 1, (10 ** 8 + 1, 10 ** 8)))
        self.assertEqual(self.holds(with_demand(with_room(net, 0, TWO), 1, I), [((Z, Z), (I,))]), (1,))
        self.assertEqual(self.holds(with_demand(with_room(net, 0, I), 1, I), [((Z, Z), (I,))]), (0, 1))

    def test_all_nets(self):
        seen = {}
        for net, splits in nets():
            grid = let_grid(net) if len(net[1]) < 3 else []
            need = self.holds(net, [*splits, *grid])
            seen[need == (), any(not is_inner(net, split) for split in splits)] = True
            # At a mean with an inner split nothing else is locked.
            for split in splits:
                mean = mixed(inner_split(net), split, Fraction(99, 100))
                self.gives(True, is_inner, net, mean)
        self.assertEqual(len(seen), 4)

    def test_either_a_let_split_or_a_paper(self):
        chance = random.Random(29)
        seen = {True: 0, False: 0}
        for net, _ in nets():
            for _ in range(2):
                rooms = tuple(fraction(number(room) * chance.choice([1, 1, Fraction(99, 100), Fraction(1, 2)])) for room in net[0])
                tried = rooms, net[1]
                try:
                    split = let_split(tried)
                except NoneLet:
                    self.refuses(tried)
                    seen[False] += 1
                    continue
                self.assertTrue(fits(tried, split))
                self.holds(tried, [])
                seen[True] += 1
        self.assertGreater(min(seen.values()), 40)

    def test_free_splits_are_joined(self):
        seen = 0
        for net, splits in nets():
            inner = inner_split(net)
            empty = {link for link, room in enumerate(net[0]) if room == Z}
            for split in splits:
                if set(plainly_thinned(net, split)[-1]) <= empty:
                    self.assertTrue(are_joined(net, split, inner) and is_inner(net, split))
                    seen += 1
        self.assertGreater(seen, 30)

    def test_clean_turns_stay_inner_or_not(self):
        for net, splits in nets()[::3]:
            for split in splits:
                is_so = is_inner(net, split)
                for other in loosened(net, split)[1:]:
                    self.gives(is_so, is_inner, net, other)
                if is_so and are_joined(net, split, inner_split(net)):
                    for other, _ in road_between(net, split, inner_split(net))[1]:
                        self.gives(True, is_inner, net, other)

    def test_chains_are_free(self):
        for many in range(1, 6):
            net, split = some_chain(many)
            self.assertEqual(self.holds(net, [split]), ())
            self.gives(True, is_inner, net, split)

    def test_none_papers_by_hand(self):
        tight = with_room(NET, 0, H)
        for paper, is_so in [
            ((I, I), True), ((H, H), True), ((I, Z), False), ((Z, I), False), ((Z, Z), False), ((TWO, I), False),
            ((I, (3, 2)), False), ((I, (4, 3)), True), (((3, 2), I), True), ((I,), False), ((I, I, I), False), ([I, I], False),
            ((1, 1), False), (((-1, 1), (-1, 1)), False), (((2, 2), (2, 2)), False), (((True, 1), I), False), ((), False),
        ]:
            self.gives(is_so, is_none_paper, tight, paper)
            self.assertEqual(plainly_none_paper(tight, paper), is_so)
            self.gives(False, is_none_paper, NET, paper)
        # Sums that are just equal show nothing.
        for part in [Fraction(1, 10 ** 9), Fraction(1, 100)]:
            self.gives(True, is_none_paper, with_room(NET, 0, fraction(1 - part)), (I, I))
        self.gives(False, is_none_paper, NET, (I, I))
        self.gives(False, is_none_paper, tight, (I, (3, 2)))
        self.gives(True, is_none_paper, tight, (I, (3 * 10 ** 59 - 1, 2 * 10 ** 59)))
        self.gives(False, is_none_paper, NOTHING, ())
        self.gives(False, is_none_paper, NO_LINKS, ())
        self.gives(False, is_none_paper, NO_FLOWS, (I, I, I))

    def test_none_papers_of_any_value(self):
        tight = with_room(NET, 0, H)
        for thing in ODD_VALUES:
            for net in [tight, NET, NOTHING, NO_FLOWS, NO_LINKS]:
                self.gives(False, is_none_paper, net, thing)
            self.gives(False, is_none_paper, tight, (I, thing))
        seen = {True: 0, False: 0}
        for paper in [(I, I), (I, (3, 2)), ((7, 5), (8, 5))]:
            for thing in spoiled(paper):
                is_so = plainly_none_paper(tight, thing)
                seen[is_so] += 1
                self.gives(is_so, is_none_paper, tight, thing)
        self.assertGreater(min(seen.values()), 5)

    def test_none_papers_of_long_numbers(self):
        chance = random.Random(30)
        for net, _ in nets()[::4]:
            if net[0]:
                paper = long_shares(chance, I, len(net[0]))
                self.gives(False, is_none_paper, net, paper)
                none = tuple(fraction(number(room) / 2) for room in net[0]), net[1]
                self.gives(plainly_none_paper(none, paper), is_none_paper, none, paper)


if __name__ == "__main__":
    unittest.main()
