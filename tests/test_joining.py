"""[24], with JOINED and AGREE of [2], [8], and what [10] says of wider links and of idle ways."""

import random
import unittest
from fractions import Fraction
from itertools import permutations, product

from neverjammed.courses import course_of, end_of, is_course, is_road, turns_of
from neverjammed.joining import are_joined, bar_between, is_bar, road_between
from neverjammed.nets import with_way
from tests.helper import (
    Case, H, I, NOTHING, NO_FLOWS, NO_LINKS, ODD_VALUES, TWO, Z, cases, fraction, lots, mixed, number, some_chain, spoiled,
    tight_cases,
)
from tests.plain import (
    plainly_agree, plainly_bar, plainly_full, plainly_lock_paper, plainly_road, plainly_thinned, told,
)

LEFT, RIGHT, SPARE = (I, Z, Z), (Z, I, Z), (Z, Z, I)
FLOWS = ((I, (LEFT, RIGHT)), (I, (LEFT, RIGHT)))
HERE, THERE = ((I, Z), (Z, I)), ((Z, I), (I, Z))
NET = ((I, I, H), FLOWS)
# The other flow takes less of one link, so that only HERE is locked.
SMALL = ((I, I), ((I, ((I, Z), (Z, I))), (I, ((H, Z), (Z, I)))))


def some_exchange(chance, many, links):
    """Flows that take one link each, of their own ways, and splits that exchange their places; all are full."""
    unit = [tuple(I if k == link else Z for k in range(links)) for link in range(links)]
    places = [chance.randrange(links) for _ in range(many)]
    rooms = tuple(fraction(places.count(link)) for link in range(links))
    flows = ((I, tuple(unit)),) * many
    splits = [tuple(tuple(I if k == link else Z for k in range(links)) for link in row)
              for row in set(permutations(places))]
    return (rooms, flows), tuple(chance.sample(sorted(splits), min(3, len(splits))))


def exchanges():
    """Exchanges on full links, with a spare way of one flow or room on one link, and without."""
    chance = random.Random(24)
    found = [(SMALL, (HERE, THERE)), (NET, (HERE, THERE))]
    for many in range(2, 5):
        for links in range(2, 4):
            for _ in range(3):
                net, splits = some_exchange(chance, many, links)
                found.append((net, splits))
                spare = with_way(net, 0, (Z,) * links)
                found.append((spare, tuple(((split[0] + (Z,)),) + split[1:] for split in splits)))
                rooms = (fraction(number(net[0][0]) + Fraction(1, 7)),) + net[0][1:]
                found.append(((rooms, net[1]), splits))
    return found


def couples():
    """Tuples (net, one, other) of let splits, joined or not."""
    found = []
    for net, splits in exchanges() + tight_cases(70) + cases(10, True):
        found += [(net, one, other) for one, other in product(splits, repeat=2)]
    return found


class JoiningTest(Case):

    def holds(self, net, one, other):
        """Just one of a road and a bar, and each is what it has to be; returns whether there is a road."""
        is_so = are_joined(net, one, other)
        self.gives(is_so, are_joined, net, one, other)
        road, bar = road_between(net, one, other), bar_between(net, one, other)
        self.gives(road, road_between, net, one, other)
        self.gives(bar, bar_between, net, one, other)
        self.assertEqual((road is not None, bar is None), (is_so, is_so))
        if road is None:
            self.assertTrue(plainly_bar(net, one, other, bar))
            self.gives(True, is_bar, net, one, other, bar)
            return False
        self.gives(True, is_road, net, road)
        self.assertEqual((road[0], end_of(road)), (one, other))
        most = len(plainly_full(net, one)) + len(plainly_full(net, other)) + 1
        self.assertLessEqual(len(road[1]), most)
        if turns_of(road) < 8:
            self.assertTrue(plainly_road(net, road))
            self.assertTrue(is_course(net, course_of(road)))
            # Whatever is locked at one split is locked at all of them, and all agree on it.
            lock = plainly_thinned(net, one)[-1]
            for split in told(road)[1::2]:
                self.assertEqual(plainly_thinned(net, split)[-1], lock)
                self.assertTrue(plainly_agree(net, one, split, lock))
        return True

    def test_by_hand(self):
        paper = ((I, I, Z),) * 2
        self.gives(False, are_joined, NET, HERE, THERE)
        self.gives(None, road_between, NET, HERE, THERE)
        for which, lot, thing, is_so in [
            (0, (0, 1), paper, True), (1, (0, 1), paper, True), (0, (0,), paper, False), (0, (), ((Z, Z, Z),) * 2, False),
            (2, (0, 1), paper, False), (-1, (0, 1), paper, False), (True, (0, 1), paper, False), (False, (0, 1), paper, False),
            (None, (0, 1), paper, False), ("0", (0, 1), paper, False), (0, [0, 1], paper, False), (0, (1, 0), paper, False),
            (0, (0, 1, 2), paper, False), (0, (0, True), paper, False), (0, (0, 3), paper, False), (0, (0, 1), paper[:1], False),
            (0, (0, 1), ((I, I, Z), (H, H, Z)), True), (0, (0, 1), ((I, I, Z), (H, I, Z)), False), (0, None, paper, False),
            (0, (0, 1), list(paper), False), (0, (0, 1), None, False), ((0,), (0, 1), paper, False),
        ]:
            self.gives(is_so, is_bar, NET, HERE, THERE, (which, lot, thing))
            self.gives(False, is_bar, NET, HERE, HERE, (which, lot, thing))
        self.gives(False, is_bar, NET, HERE, THERE, [0, (0, 1), paper])
        self.gives(False, is_bar, NET, HERE, THERE, (0, (0, 1)))
        self.gives(False, is_bar, NET, HERE, THERE, (0, (0, 1), paper, paper))
        self.holds(NET, HERE, THERE)
        self.assertTrue(self.holds(NET, HERE, HERE))
        # With a spare way of one flow they are joined.
        wider = (NET[0], ((I, (LEFT, RIGHT, SPARE)), FLOWS[1]))
        self.assertTrue(self.holds(wider, ((I, Z, Z), (Z, I)), ((Z, I, Z), (I, Z))))

    def test_a_bar_at_one_of_the_two_alone(self):
        self.gives(False, are_joined, SMALL, HERE, THERE)
        self.gives(False, are_joined, SMALL, THERE, HERE)
        self.assertEqual(bar_between(SMALL, HERE, THERE)[:2], (0, (0, 1)))
        self.assertEqual(bar_between(SMALL, THERE, HERE)[:2], (1, (0, 1)))
        for which, one, other in [(0, HERE, THERE), (1, THERE, HERE)]:
            for prices in [((I, I), (TWO, H)), ((H, I), (TWO, I)), ((I, TWO), (TWO, I))]:
                self.gives(True, is_bar, SMALL, one, other, (which, (0, 1), prices))
                self.gives(False, is_bar, SMALL, one, other, (1 - which, (0, 1), prices))
                self.gives(False, is_bar, SMALL, other, one, (which, (0, 1), prices))
            self.gives(False, is_bar, SMALL, one, other, (which, (0, 1), ((TWO, I), (TWO, I))))
            self.gives(False, is_bar, SMALL, one, other, (which, (0, 1), ((I, I), (I, I))))

    def test_nets_with_nothing(self):
        self.assertTrue(self.holds(NO_LINKS, ((I, Z), (H,)), ((Z, I), (H,))))
        self.assertTrue(self.holds(NO_FLOWS, (), ()))
        self.assertTrue(self.holds(NOTHING, (), ()))
        for thing in [*ODD_VALUES, (0, (), ()), (1, (1,), ()), (0, (1,), ((),))]:
            self.gives(False, is_bar, NO_FLOWS, (), (), thing)
            self.gives(False, is_bar, NOTHING, (), (), thing)
            self.gives(False, is_bar, NO_LINKS, ((I, Z), (H,)), ((Z, I), (H,)), thing)

    def test_equal_ways_and_flows_of_one_way(self):
        # A link that is full by a flow of one way alone is locked, and bars nothing by itself.
        net = ((I, I), ((I, ((I, Z),)), (I, ((Z, H), (Z, H)))))
        for one, other in product([((I,), (I, Z)), ((I,), (Z, I)), ((I,), (H, H))], repeat=2):
            self.assertTrue(self.holds(net, one, other))
        # Equal ways are no other place.
        net = ((I, I), ((I, ((I, Z), (I, Z), (Z, I))), (I, ((I, Z), (Z, I), (Z, I)))))
        here = [((I, Z, Z), (Z, I, Z)), ((Z, I, Z), (Z, Z, I)), ((H, H, Z), (Z, H, H))]
        there = [((Z, Z, I), (I, Z, Z))]
        for one, other in product(here + there, repeat=2):
            self.assertEqual(self.holds(net, one, other), (one in here) == (other in here))

    def test_just_one_of_a_road_and_a_bar(self):
        seen = {}
        for net, one, other in couples():
            is_so = self.holds(net, one, other)
            # [8]: joined exactly if the LOCKS are the same, and they agree on it.
            locks = plainly_thinned(net, one)[-1], plainly_thinned(net, other)[-1]
            self.assertEqual(is_so, locks[0] == locks[1] and plainly_agree(net, one, other, locks[0]))
            self.assertEqual(is_so, plainly_agree(net, one, other, locks[0]) and plainly_agree(net, one, other, locks[1]))
            self.assertEqual(is_so, are_joined(net, other, one))
            seen[is_so, one == other, locks[0] == locks[1], locks[0] == ()] = True
        for case in [
            (True, True, True, True), (True, True, True, False), (True, False, True, True), (True, False, True, False),
            (False, False, True, False), (False, False, False, False), (False, False, False, True),
        ]:
            self.assertIn(case, seen)

    def test_exchanges_on_three_links_take_many_turns(self):
        # The less room is left, the more turns a road has: they are told, not listed.
        net, splits = some_exchange(random.Random(3), 3, 3)
        for tiny in [Fraction(1, 4), Fraction(1, 10 ** 9), Fraction(1, 10 ** 40)]:
            rooms = tuple(fraction(number(room) + tiny) for room in net[0])
            for one, other in product(splits, repeat=2):
                self.assertTrue(self.holds((rooms, net[1]), one, other))
                if one != other:
                    self.assertGreaterEqual(turns_of(road_between((rooms, net[1]), one, other)) * tiny, 1)

    def test_joined_goes_round(self):
        for net, splits in exchanges()[::2] + tight_cases(40):
            for one, other, third in product(splits, repeat=3):
                if are_joined(net, one, other) and are_joined(net, other, third):
                    self.assertTrue(are_joined(net, one, third))
            for split in splits:
                self.assertTrue(are_joined(net, split, split))

    def test_wider_links_and_idle_ways_join_all(self):
        # [10]: with all links a little wider, or an idle way for each flow.
        for net, splits in exchanges()[::2] + tight_cases(30):
            rooms = tuple(fraction(number(room) + Fraction(1, 1000)) for room in net[0])
            idle = net
            for flow in range(len(net[1])):
                idle = with_way(idle, flow, (Z,) * len(net[0]))
            for one, other in product(splits, repeat=2):
                self.assertTrue(self.holds((rooms, net[1]), one, other))
                still = [tuple(shares + (Z,) for shares in split) for split in (one, other)]
                self.assertTrue(self.holds(idle, *still))

    def test_along_chains(self):
        for many in range(1, 6):
            net, split = some_chain(many)
            for other in [((Z, I),) * many, ((Z, I),) + ((I, Z),) * (many - 1), ((H, H),) * many]:
                self.assertTrue(self.holds(net, split, other))
                self.assertTrue(self.holds(net, other, split))

    def test_means_of_splits_that_are_not_joined(self):
        for net, splits in exchanges()[::2]:
            for one, other in zip(splits, splits[1:]):
                mean = mixed(one, other, Fraction(1, 10 ** 30))
                self.holds(net, one, mean)
                self.holds(net, mean, other)

    def test_bars_of_any_value(self):
        seen = {True: 0, False: 0}
        for thing in ODD_VALUES:
            self.gives(False, is_bar, NET, HERE, THERE, thing)
            is_so = type(thing) is int and thing in (0, 1)
            self.gives(is_so, is_bar, NET, HERE, THERE, (thing, (0, 1), ((I, I, Z),) * 2))
            self.gives(False, is_bar, NET, HERE, THERE, (0, thing, ((I, I, Z),) * 2))
            self.gives(False, is_bar, NET, HERE, THERE, (0, (0, 1), thing))
        for net, one, other in [(NET, HERE, THERE), (SMALL, HERE, THERE), (SMALL, THERE, HERE), (NET, HERE, HERE)]:
            bar = bar_between(net, one, other) or (0, (0, 1), ((I, I, Z),) * 2)
            for thing in spoiled(bar):
                is_so = plainly_bar(net, one, other, thing)
                seen[is_so] += 1
                self.gives(is_so, is_bar, net, one, other, thing)
        self.assertGreater(min(seen.values()), 3)

    def test_bars_of_all_lots(self):
        for net, one, other in couples()[::5]:
            for which, split in enumerate((one, other)):
                for lot in lots(len(net[0])):
                    prices = tuple(I if link in lot else Z for link in range(len(net[0])))
                    bar = (which, lot, (prices,) * len(one))
                    self.gives(plainly_bar(net, one, other, bar), is_bar, net, one, other, bar)
                    if plainly_lock_paper(net, split, lot, bar[2]) and not plainly_agree(net, one, other, lot):
                        self.assertFalse(are_joined(net, one, other))


if __name__ == "__main__":
    unittest.main()
