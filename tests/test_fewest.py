"""[25], and what [10] says of turns: a course of so many turns, or a JAM PAPER."""

import random
import unittest
from fractions import Fraction
from itertools import product

from neverjammed.fewest import fewest_turns, is_jam_paper, jam_paper, turns_within
from neverjammed.turns import worst_lot
from tests.helper import (
    Case, H, I, NOTHING, NO_FLOWS, NO_LINKS, ODD_VALUES, TWO, Z, cases, deep, fraction, long_shares, lots, number,
    tight_cases,
)
from tests.plain import plainly_clean, plainly_course, plainly_jam_paper, plainly_jam_sums, plainly_joined

HERE, THERE = ((I, Z), (Z, I)), ((Z, I), (I, Z))
FLOWS = ((I, ((I, Z), (Z, I))), (I, ((I, Z), (Z, I))))
FULL = ((I, I), FLOWS)


def swap(room):
    """Two flows that exchange two links of this room."""
    return (fraction(room),) * 2, FLOWS


def couples():
    """Tuples (net, one, other) of let splits, of at most three flows with at most three ways."""
    found = []
    for net, splits in tight_cases(60) + cases(60, True):
        if len(net[1]) < 4 and all(len(ways) < 4 for _, ways in net[1]):
            found += [(net, one, other) for one, other in product(splits, repeat=2)]
    return found


def some_swaps():
    """Couples that two or three flows exchange, for which one turn is seldom enough."""
    chance = random.Random(25)
    found = []
    for _ in range(14):
        links, many = chance.choice([(2, 2), (2, 3), (3, 3)])
        unit = [tuple(I if k == link else Z for k in range(links)) for link in range(links)]
        flows = tuple((I, tuple(unit)) for _ in range(many))
        places = [chance.randrange(links) for _ in range(many)]
        splits = [tuple(unit[place] for place in row) for row in (places, places[1:] + places[:1])]
        part = Fraction(1, chance.choice([1, 2, 3, 4, 5]))
        rooms = tuple(fraction(places.count(link) + part) for link in range(links))
        found.append(((rooms, flows), *splits))
    return found


class FewestTest(Case):

    def holds(self, net, one, other, count):
        """A course of at most so many turns or a paper, just one of both; returns whether there is a course."""
        course = turns_within(net, one, other, count)
        self.gives(course, turns_within, net, one, other, count)
        if course is not None:
            self.assertTrue(plainly_course(net, course))
            self.assertEqual((course[0], course[-1]), (one, other))
            self.assertLessEqual(len(course) - 1, count)
        if count > 0:
            paper = jam_paper(net, one, other, count)
            self.gives(paper, jam_paper, net, one, other, count)
            self.assertEqual(paper is None, course is not None)
            if paper is not None:
                self.assertEqual(list(paper), sorted(paper))
                self.assertTrue(plainly_jam_paper(net, one, other, count, paper))
                self.gives(True, is_jam_paper, net, one, other, count, paper)
        return course is not None

    def fewest(self, net, one, other):
        """The fewest turns up to three, None if there are none, told by all functions alike."""
        told = [self.holds(net, one, other, count) for count in range(4)]
        self.assertEqual(told, sorted(told))
        fewest = told.index(True) if True in told else None
        for most in range(4):
            self.gives(None if fewest is None or fewest > most else fewest, fewest_turns, net, one, other, most)
        return fewest

    def test_rooms_for_just_so_many_turns(self):
        for room, fewest in [
            (2, 1), (Fraction(199, 100), 2), (Fraction(3, 2), 2), (Fraction(149, 100), 3), (Fraction(4, 3), 3),
            (Fraction(133, 100), None), (Fraction(5, 4), None), (1, None), (3, 1),
        ]:
            self.assertEqual(self.fewest(swap(room), HERE, THERE), fewest, room)
            self.assertEqual(self.fewest(swap(room), THERE, HERE), fewest, room)
            self.assertEqual(self.fewest(swap(room), HERE, HERE), 0)
        for tiny in [Fraction(1, 10 ** 9), Fraction(1, 10 ** 40)]:
            self.assertEqual(self.fewest(swap(Fraction(3, 2) - tiny), HERE, THERE), 3)
            self.assertEqual(self.fewest(swap(Fraction(4, 3) - tiny), HERE, THERE), None)
            self.assertEqual(self.fewest(swap(2 - tiny), HERE, THERE), 2)

    def test_no_number_of_turns_is_enough(self):
        self.assertIsNone(self.fewest(FULL, HERE, THERE))
        self.assertIsNone(self.fewest(FULL, THERE, HERE))
        self.assertEqual(self.fewest(FULL, HERE, HERE), 0)
        # More than three turns, too, are told by papers.
        for count in [4, 5]:
            self.assertFalse(self.holds(FULL, HERE, THERE, count))
        self.assertTrue(self.holds(swap(Fraction(5, 4)), HERE, THERE, 4))

    def test_all_couples(self):
        seen = {}
        for net, one, other in couples() + some_swaps():
            fewest = self.fewest(net, one, other)
            self.assertEqual(fewest_turns(net, other, one, 3), fewest)
            self.assertEqual(fewest == 0, one == other)
            self.assertEqual(fewest in (0, 1), plainly_clean(net, one, other))
            is_joined = plainly_joined(net, one, other)
            self.assertTrue(is_joined or fewest is None)
            seen[fewest, is_joined] = seen.get((fewest, is_joined), 0) + 1
        for case in [(0, True), (1, True), (2, True), (3, True), (None, True), (None, False)]:
            self.assertGreater(seen.get(case, 0), 1, seen)

    def test_nets_with_nothing(self):
        self.assertEqual(self.fewest(NO_LINKS, ((I, Z), (H,)), ((Z, I), (H,))), 1)
        self.assertEqual(self.fewest(NO_LINKS, ((I, Z), (H,)), ((I, Z), (H,))), 0)
        for net in [NO_FLOWS, NOTHING]:
            self.assertEqual(self.fewest(net, (), ()), 0)
            self.gives(((),), turns_within, net, (), (), 3)
        # Flows of one way, and flows without a demand.
        net = ((I, (3, 2)), ((I, ((I, H),)), (I, ((Z, H), (Z, I))), (Z, ((I, I), (TWO, Z)))))
        one, other = ((I,), (I, Z), (Z, Z)), ((I,), (Z, I), (Z, Z))
        self.assertEqual(self.fewest(net, one, other), 1)
        # With ways that take nothing no more room is needed than the ends do.
        idle = ((I,), ((I, ((I,), (Z,))), (I, ((I,), (Z,)))))
        self.assertEqual(self.fewest(idle, HERE, THERE), 2)
        self.assertEqual(self.fewest(idle, ((Z, I), (Z, I)), THERE), 1)

    def test_long_numbers_are_exact(self):
        chance = random.Random(60)
        for _ in range(4):
            one = (long_shares(chance, I, 2), long_shares(chance, I, 2))
            other = (one[0][::-1], long_shares(chance, I, 2))
            borne = [number(split[0][0]) + number(split[1][0]) for split in (one, other)]
            room = max(borne + [2 - load for load in borne])
            for part in [0, Fraction(1, 10 ** 30), Fraction(1, 3)]:
                self.fewest(swap(room + part), one, other)

    def test_papers_of_one_turn(self):
        for room in [1, Fraction(3, 2), 2]:
            net = swap(room)
            for lot in lots(2):
                for link in range(2):
                    load = 1 if len(lot) != 1 else 0 if lot == (link,) else 2
                    self.gives(load > room, is_jam_paper, net, HERE, THERE, 1, {(0, link, lot): (7, 3)})
            self.gives(False, is_jam_paper, net, HERE, HERE, 1, {(0, 0, (1,)): I})
        paper = jam_paper(swap(1), HERE, THERE, 1)
        for turn, link, lot in paper:
            self.assertEqual((turn, worst_lot(swap(1), HERE, THERE, link)), (0, (TWO, lot)))

    def test_papers_of_two_turns_by_hand(self):
        good = {(0, 1, (0,)): I, (1, 0, (1,)): I}
        for paper, count, is_so in [
            (good, 2, True), (good, 3, False), (good, 1, False), ({}, 2, False), ({(0, 1, (0,)): I}, 2, False),
            ({(1, 0, (1,)): I}, 2, False), ({(0, 1, (0,)): I, (1, 0, (1,)): TWO}, 2, True),
            ({(0, 1, (0,)): (9, 7), (1, 0, (1,)): (9, 7)}, 2, True), ({(0, 1, (0,)): H, (1, 0, (1,)): H}, 2, True),
            ({(0, 1, (0,)): I, (1, 0, (0,)): I}, 2, False), ({(1, 1, (0,)): I, (1, 0, (1,)): I}, 2, False),
            ({(0, 1, (0,)): I, (1, 0, (1,)): I, (0, 0, ()): I}, 2, True),
            ({(0, 1, (0,)): I, (1, 0, (1,)): I, (1, 1, (0, 1)): TWO}, 2, True),
            ({(1, 0, (1,)): I, (0, 1, (0,)): I}, 2, True), ({(0, 1, (0,)): I, (1, 0, (1,)): (1, 10 ** 39)}, 2, True),
        ]:
            self.gives(is_so, is_jam_paper, FULL, HERE, THERE, count, paper)
            self.assertEqual(plainly_jam_paper(FULL, HERE, THERE, count, paper), is_so)
            self.gives(False, is_jam_paper, FULL, HERE, HERE, count, paper)

    def test_sums_that_are_just_equal(self):
        # With a room of 3/2 two turns are just enough: the paper that shows it for less is just as great.
        paper = {(0, 1, (0,)): I, (1, 0, (1,)): I}
        for room, is_so in [(Fraction(3, 2), False), (Fraction(3, 2) - Fraction(1, 10 ** 60), True)]:
            borne, free = plainly_jam_sums(swap(room), HERE, THERE, 2, paper)
            self.assertEqual(borne > free, is_so)
            self.gives(is_so, is_jam_paper, swap(room), HERE, THERE, 2, paper)
        self.assertEqual(*plainly_jam_sums(swap(Fraction(3, 2)), HERE, THERE, 2, paper))

    def test_turns_of_a_million_millions(self):
        count = 10 ** 12
        self.gives(False, is_jam_paper, FULL, HERE, THERE, count, {(0, 1, (0,)): I, (1, 0, (1,)): I})
        self.gives(False, is_jam_paper, FULL, HERE, THERE, count, {(0, 1, (0,)): I, (count - 1, 0, (1,)): I})
        self.gives(False, is_jam_paper, FULL, HERE, THERE, count, {(count, 0, (1,)): I})
        self.gives(False, is_jam_paper, FULL, HERE, THERE, count, {(-1, 0, (1,)): I})
        self.gives(False, is_jam_paper, FULL, HERE, THERE, count, {})
        self.gives(False, is_jam_paper, FULL, HERE, THERE, count, {(turn, 0, (1,)): I for turn in range(900)})

    def test_papers_of_three_turns_by_hand(self):
        good = {(0, 1, (0,)): I, (1, 0, (1,)): I, (2, 1, (0,)): I}
        self.gives(True, is_jam_paper, FULL, HERE, THERE, 3, good)
        for room, is_so in [(Fraction(4, 3), False), (Fraction(4, 3) - Fraction(1, 10 ** 40), True), (Fraction(5, 4), True)]:
            self.gives(is_so, is_jam_paper, swap(room), HERE, THERE, 3, good)
        for key in good:
            self.gives(False, is_jam_paper, FULL, HERE, THERE, 3, {other: I for other in good if other != key})
            self.gives(True, is_jam_paper, FULL, HERE, THERE, 3, {**good, key: (3, 2)})

    def test_papers_of_any_value(self):
        good = {(0, 1, (0,)): I, (1, 0, (1,)): I}
        for thing in ODD_VALUES + (list(good.items()), tuple(good), "paper", HERE, FULL):
            self.gives(False, is_jam_paper, FULL, HERE, THERE, 2, thing)
            self.gives(False, is_jam_paper, FULL, HERE, THERE, 2, {**good, (0, 0, ()): thing})
        hashable = [thing for thing in ODD_VALUES if not isinstance(thing, (list, dict)) and "[" not in repr(thing)]
        for thing in [thing for thing in hashable if repr(thing).count("(") < 2000]:
            self.gives(False, is_jam_paper, FULL, HERE, THERE, 2, {**good, thing: I})
            for key in [(thing, 0, ()), (0, thing, ()), (0, 0, thing), (0, 0, (thing,)), (0, 0, (), thing), (thing, 0)]:
                is_so = plainly_jam_paper(FULL, HERE, THERE, 2, {**good, key: I})
                self.gives(is_so, is_jam_paper, FULL, HERE, THERE, 2, {**good, key: I})
        for part in [Z, (-1, 1), (2, 2), (1, 0), (True, 1), (1, True), 1, True, "1", None, [1, 1], (1, 1, 1), (1,), deep(9)]:
            self.gives(False, is_jam_paper, FULL, HERE, THERE, 2, {**good, (0, 0, ()): part})
            self.gives(False, is_jam_paper, FULL, HERE, THERE, 2, {**good, (0, 1, (0,)): part})

    def test_items_with_a_key_otherwise(self):
        good = {(0, 1, (0,)): I, (1, 0, (1,)): I}
        odd = [
            (2, 0, ()), (-1, 0, ()), (0, 2, ()), (0, -1, ()), (0, 0, (2,)), (0, 0, (-1,)), (0, 0, (1, 0)), (0, 0, (0, 0)),
            (0, 0, 0), (0, 0), (0, 0, (), ()), (0, 0, (0, 1, 2)), (0, 0, (True,)), (0, 0, (False,)), (0, 0, (0, True)),
            (True, 1, ()), (False, 1, ()), (0, True, ()), (0, False, ()), (None, 0, ()), ("0", 0, ()), (0, (0,), ()), (),
            None, 0, "key", ((0, 0, ()),),
        ]
        for key in odd:
            self.gives(False, is_jam_paper, FULL, HERE, THERE, 2, {**good, key: I})
            self.gives(False, is_jam_paper, FULL, HERE, THERE, 2, {key: I})
            # However little the number is, the rest being enough.
            self.gives(False, is_jam_paper, FULL, HERE, THERE, 2, {**good, key: (1, 10 ** 9)})
        for key in [(0, 0, ()), (1, 1, (0, 1)), (0, 0, (0,)), (1, 0, (0,))]:
            self.gives(True, is_jam_paper, FULL, HERE, THERE, 2, {**good, key: (1, 10 ** 9)})
        for turn, link, lot in product(range(2), range(2), lots(2)):
            paper = {**good, (turn, link, lot): (1, 100)}
            self.gives(plainly_jam_paper(FULL, HERE, THERE, 2, paper), is_jam_paper, FULL, HERE, THERE, 2, paper)

    def test_more_links_than_flows_and_more_flows_than_links(self):
        # The two that exchange are the last links, or the last flows.
        wide = (TWO, TWO, I, I), tuple((I, tuple((Z, Z) + way for way in ways)) for _, ways in FLOWS)
        many = ((TWO, TWO), ((I, ((I, Z),)), (I, ((Z, I),)), *FLOWS))
        for net, one, other, link, flow in [(wide, HERE, THERE, 2, 0), (many, ((I,), (I,), *HERE), ((I,), (I,), *THERE), 0, 2)]:
            self.assertIsNone(self.fewest(net, one, other))
            good = {(0, link + 1, (flow,)): I, (1, link, (flow + 1,)): I}
            self.gives(True, is_jam_paper, net, one, other, 2, good)
            for size in range(5):
                for key in [(0, size, ()), (1, 0, (size,)), (1, 1, (size,)), (size, 1, (0,))]:
                    thing = {**good, key: (1, 10 ** 9)}
                    is_so = plainly_jam_paper(net, one, other, 2, thing)
                    self.gives(is_so, is_jam_paper, net, one, other, 2, thing)

    def test_papers_with_a_number_otherwise(self):
        chance = random.Random(2)
        seen = {True: 0, False: 0}
        for net, one, other in some_swaps() + couples()[::6]:
            for count in [1, 2, 3]:
                paper = jam_paper(net, one, other, count) or {(0, 0, ()): I} if net[0] else {}
                for key in list(paper) + [(count - 1, 0, tuple(range(len(one))))][:len(net[0])]:
                    for part in [(1, 10 ** 6), H, TWO, (5, 3), (10 ** 59 + 1, 10 ** 59)]:
                        thing = {**paper, key: part}
                        is_so = plainly_jam_paper(net, one, other, count, thing)
                        seen[is_so] += 1
                        self.gives(is_so, is_jam_paper, net, one, other, count, thing)
                for size in range(len(paper)):
                    thing = dict(chance.sample(sorted(paper.items()), size))
                    is_so = plainly_jam_paper(net, one, other, count, thing)
                    self.gives(is_so, is_jam_paper, net, one, other, count, thing)
                    self.gives(plainly_jam_paper(net, one, other, 4, thing), is_jam_paper, net, one, other, 4, thing)
        self.assertGreater(min(seen.values()), 50)


if __name__ == "__main__":
    unittest.main()
