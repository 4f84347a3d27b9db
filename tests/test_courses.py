"""[18], and what [5] and [23] say of the parts of a straight way."""

import random
import unittest
from fractions import Fraction
from itertools import combinations

from neverjammed.courses import (
    course_of, end_of, greatest_loads, is_course, is_road, kept_splits, one_by_one, parts_of_way, turned_about, turns_of,
)
from neverjammed.errors import TooMany
from tests.helper import (
    Case, H, I, NOTHING, NO_FLOWS, NO_LINKS, ODD_VALUES, TWO, Z, cases, fraction, loads, long_shares, midsts, mixed, number,
    some_split, spoiled, taken_over,
)
from tests.plain import plainly_clean, plainly_course, plainly_road, told

FLOWS = ((I, ((I,), (Z,))), (I, ((I,), (Z,))))
HERE, THERE = ((I, Z), (Z, I)), ((Z, I), (I, Z))
NET = (((3, 2),), FLOWS)


def some_splits(chance, flows, many):
    """So many splits, one behind the other on short ways, some of which come again."""
    course = [some_split(chance, flows)]
    goal = some_split(chance, flows)
    while len(course) < many:
        kind = chance.randrange(6)
        if kind == 0:
            course.append(chance.choice(course))
        elif kind == 1:
            goal = some_split(chance, flows)
        else:
            course.append(mixed(course[-1], goal, Fraction(1, chance.choice([1, 2, 3, 4]))))
    return tuple(course)


def some_courses(many, size):
    """Courses with scarcely more room than they need."""
    chance = random.Random(many)
    found = []
    for net, _ in cases(many, True):
        course = some_splits(chance, net[1], chance.randrange(1, size + 1))
        rows = [loads(net, split) for one, other in zip(course, course[1:] + course[-1:]) for split in midsts(one, other)]
        rooms = tuple(fraction(max(row[link] for row in rows)) for link in range(len(net[0])))
        found.append(((rooms, net[1]), course))
    return found


def best_kept(net, course):
    """Of the shortest tuples of indexes of a course the least one, all gone through."""
    last = len(course) - 1
    if last == 0:
        return (0,)
    clean = {
        (a, b): plainly_clean(net, course[a], course[b]) for a, b in combinations(range(last + 1), 2)
    }
    for size in range(last):
        for amid in combinations(range(1, last), size):
            kept = (0,) + amid + (last,)
            if all(clean[pair] for pair in zip(kept, kept[1:])):
                return kept
    return None


class CoursesTest(Case):

    def test_courses_by_hand(self):
        amid = mixed(HERE, THERE, Fraction(1, 2))
        high = ((I, Z), (I, Z))
        for room, course, told_so in [
            ((3, 2), (HERE, amid, THERE), True), ((3, 2), (HERE, THERE), False), ((3, 2), (HERE,), True), (I, (HERE, amid), False),
            (H, (HERE,), False), (I, (HERE, HERE), True), (TWO, (HERE, high, THERE), True), ((3, 2), (HERE, high, THERE), False),
            ((3, 2), (high,), False), ((3, 2), (HERE, amid, high), False), ((3, 2), (high, amid), False), (I, (), False),
        ]:
            self.gives(told_so, is_course, ((room,), FLOWS), course)
        self.gives(False, is_course, NET, [HERE])
        self.gives(False, is_course, NET, HERE)
        self.gives(True, is_course, NO_FLOWS, ((), ()))
        self.gives(True, is_course, NOTHING, ((),))
        self.gives(False, is_course, NOTHING, ())
        self.gives(True, is_course, NO_LINKS, (((I, Z), (H,)), ((Z, I), (H,))))

    def test_courses_of_any_value(self):
        for thing in ODD_VALUES:
            self.gives(False, is_course, NET, thing)
            self.gives(False, is_course, NET, (HERE, thing))
            self.gives(False, is_course, NET, (thing, HERE))
        seen = {True: 0, False: 0}
        for course in [parts_of_way(NET, HERE, THERE, 2), (HERE, HERE)]:
            for thing in spoiled(course):
                seen[plainly_course(NET, thing)] += 1
                self.gives(plainly_course(NET, thing), is_course, NET, thing)
        self.assertGreater(min(seen.values()), 3)

    def test_courses(self):
        seen = {True: 0, False: 0}
        for net, splits in cases(60) + cases(59, True):
            for course in [splits, splits[:2], splits[1:], splits[:1], splits + splits[:1]]:
                seen[plainly_course(net, course)] += 1
                self.gives(plainly_course(net, course), is_course, net, course)
        self.assertGreater(min(seen.values()), 50)

    def test_roads_by_hand(self):
        for road, told_so in [
            ((HERE, ()), True), ((HERE, ((THERE, 2),)), True), ((HERE, ((THERE, 1),)), False), ((HERE, ((HERE, 1),)), True),
            ((HERE, ((THERE, 3), (HERE, 2))), True), ((HERE, ((THERE, 3), (HERE, 1))), False),
            ((HERE, ((THERE, 1), (HERE, 3))), False), ((HERE, ((HERE, 10 ** 39), (THERE, 2), (THERE, 1))), True),
            ((HERE, ((THERE, 10 ** 39),)), True), ((HERE, ((THERE, 0),)), False), ((HERE, ((THERE, -2),)), False),
            ((HERE, ((THERE, True),)), False), ((HERE, ((HERE, True),)), False), ((HERE, ((HERE, False),)), False),
            ((HERE, ((HERE, 0),)), False), ((HERE, ((THERE, (2, 1)),)), False), ((HERE, [(THERE, 2)]), False),
            ((HERE, ([THERE, 2],)), False), ([HERE, ((THERE, 2),)], False), ((HERE, ((THERE, 2, 2),)), False),
            ((HERE, ((THERE,),)), False), ((HERE,), False), ((HERE, (), ()), False), ((HERE, (THERE, 2)), False),
            ((((I, Z), (I, Z)), ()), False), ((HERE, ((((I, Z), (I, Z)), 5),)), False), ((HERE, None), False),
            ((((I, Z), (I, Z)), ((HERE, 9),)), False), ((HERE, (((HERE, THERE), 2),)), False), (HERE, False), ((), False),
        ]:
            self.gives(told_so, is_road, NET, road)
        self.gives(True, is_road, NOTHING, ((), ()))
        self.gives(True, is_road, NO_FLOWS, ((), (((), 7), ((), 1))))

    def test_roads_of_any_value(self):
        for thing in ODD_VALUES:
            self.gives(False, is_road, NET, thing)
            self.gives(False, is_road, NET, (thing, ()))
            self.gives(False, is_road, NET, (HERE, (thing,)))
            self.gives(thing == (), is_road, NET, (HERE, thing))
            self.gives(False, is_road, NET, (HERE, ((thing, 2),)))
            whole = type(thing) is int and thing > 1
            self.gives(whole, is_road, NET, (HERE, ((THERE, thing),)))
        seen = {True: 0, False: 0}
        for road in [(HERE, ((THERE, 2), (THERE, 1))), (HERE, ((HERE, 1), (THERE, 3)))]:
            for thing in spoiled(road):
                seen[plainly_road(NET, thing)] += 1
                self.gives(plainly_road(NET, thing), is_road, NET, thing)
        self.assertGreater(min(seen.values()), 5)

    def test_roads_part_by_part(self):
        seen = {}
        for net, (one, other, third) in cases(40, True):
            for parts in range(1, 8):
                for road in [(one, ((other, parts),)), (one, ((other, parts), (third, 8 - parts)))]:
                    told_so = plainly_road(net, road)
                    self.gives(told_so, is_road, net, road)
                    seen[told_so, parts] = True
        self.assertEqual(len(seen), 14)

    def test_as_few_parts_as_are_clean_and_one_fewer(self):
        # The growth is 1, the room left 1 / many, at both ends.
        for many in [2, 3, 7, 10 ** 6, 10 ** 9, 10 ** 39 + 7]:
            net = ((fraction(1 + Fraction(1, many)),), FLOWS)
            for parts, told_so in [(many, True), (many + 1, True), (many - 1, False), (10 ** 40, True), (1, False)]:
                self.gives(told_so, is_road, net, (HERE, ((THERE, parts),)))

    def test_room_left_at_one_end_alone(self):
        # One flow more, so that the end HERE is full, or that THERE is.
        for size in [I, H, (1, 10 ** 9)]:
            for third, full in [((I, Z), HERE), ((Z, I), THERE)]:
                net = ((fraction(1 + number(size)),), FLOWS + ((I, ((size,), (Z,))),))
                one = HERE + (third,)
                other = THERE + (third[::-1],)
                for parts in (1, 2, 10 ** 39):
                    self.gives(False, is_road, net, (one, ((other, parts),)))
                    self.gives(False, is_road, net, (other, ((one, parts),)))
                # A little more room on top, and it is told by the end that was full.
                for room in [1, Fraction(1, 3), Fraction(1, 10 ** 30)]:
                    wider = ((fraction(1 + number(size) + room),), net[1])
                    growth = 1 + number(size) if full == THERE else Fraction(1)
                    loss = 1 + number(size) if full == HERE else Fraction(1)
                    left = [number(wider[0][0]) - loads(wider, end)[0] for end in (one, other)]
                    need = max(growth / left[0], loss / left[1], Fraction(1))
                    least = -(-need.numerator // need.denominator)
                    self.assertEqual(min(left), room)
                    self.gives(True, is_road, wider, (one, ((other, least),)))
                    self.gives(False, is_road, wider, (one, ((other, least - 1),)))
                    self.gives(True, is_road, wider, (other, ((one, least),)))

    def test_turns_and_ends(self):
        self.gives(0, turns_of, (HERE, ()))
        self.gives(HERE, end_of, (HERE, ()))
        self.gives(7, turns_of, (HERE, ((THERE, 2), (THERE, 5))))
        self.gives(THERE, end_of, (HERE, ((THERE, 2), (THERE, 5))))
        self.gives(HERE, end_of, (HERE, ((THERE, 2), (HERE, 2))))
        self.gives(10 ** 39 + 1, turns_of, (HERE, ((THERE, 10 ** 39), (THERE, 1))))

    def test_courses_of_roads(self):
        for stretches in [(), ((THERE, 2),), ((HERE, 1),), ((HERE, 3), (THERE, 4), (THERE, 1), (HERE, 5))]:
            self.gives(told((HERE, stretches)), course_of, (HERE, stretches))
        self.gives((HERE, HERE), course_of, (HERE, ((HERE, 1),)))
        self.gives(((), ()), course_of, ((), (((), 1),)))
        for net, (one, other, third) in cases(20, True):
            road = (one, ((other, 3), (third, 1), (one, 2)))
            self.gives(told(road), course_of, road)
            self.assertEqual(len(course_of(road)), turns_of(road) + 1)
            self.assertEqual(course_of(road)[-1], end_of(road))
            if is_road(net, road):
                self.assertTrue(is_course(net, course_of(road)))

    def test_courses_of_too_many_splits(self):
        for stretches in [((THERE, 59),), ((HERE, 1), (THERE, 57), (THERE, 1)), tuple([(HERE, 1)] * 59)]:
            course = course_of((HERE, stretches))
            self.assertEqual((len(course), course), (60, told((HERE, stretches))))
        for stretches in [
            ((THERE, 60),), ((HERE, 1), (THERE, 58), (THERE, 1)), tuple([(HERE, 1)] * 60), ((THERE, 10 ** 39),), ((THERE, 1000),),
        ]:
            with self.assertRaises(TooMany) as caught:
                course_of((HERE, stretches))
            self.assertEqual(caught.exception.most, 60)

    def test_turned_about(self):
        self.gives((HERE,), turned_about, (HERE,))
        self.gives((THERE, HERE), turned_about, (HERE, THERE))
        for net, course in some_courses(20, 7):
            back = tuple(course[k] for k in range(len(course) - 1, -1, -1))
            self.gives(back, turned_about, course)
            self.assertTrue(is_course(net, back))

    def test_parts_of_the_way(self):
        self.gives((HERE, THERE), parts_of_way, NET, HERE, THERE, 1)
        self.gives((HERE, mixed(HERE, THERE, Fraction(1, 2)), THERE), parts_of_way, NET, HERE, THERE, 2)
        self.gives((HERE,) * 6, parts_of_way, NET, HERE, HERE, 5)
        self.gives(((), (), ()), parts_of_way, NO_FLOWS, (), (), 2)
        for net, (one, other, _) in cases(20):
            for many in (1, 2, 3, 7, 61):
                parts = tuple(mixed(one, other, Fraction(k, many)) for k in range(many + 1))
                self.gives(parts, parts_of_way, net, one, other, many)

    def test_greatest_loads(self):
        self.gives((I,), greatest_loads, NET, (HERE,))
        self.gives((TWO,), greatest_loads, NET, (HERE, THERE))
        self.gives((TWO,), greatest_loads, NET, (HERE, THERE, THERE))
        self.gives((), greatest_loads, NO_LINKS, (((I, Z), (H,)),))
        self.gives((Z, Z, Z), greatest_loads, NO_FLOWS, ((), ()))
        for net, course in some_courses(60, 5):
            rows = [loads(net, split) for one, other in zip(course, course[1:] + course[-1:]) for split in midsts(one, other)]
            most = tuple(fraction(max(row[link] for row in rows)) for link in range(len(net[0])))
            self.gives(most, greatest_loads, net, course)
        for net, splits in cases(30, True):
            for split in splits:
                self.gives(tuple(fraction(load) for load in loads(net, split)), greatest_loads, net, (split,))

    def test_one_by_one(self):
        self.gives((HERE,), one_by_one, NET, (HERE,))
        self.gives((HERE,), one_by_one, NET, (HERE, HERE))
        self.gives(((),), one_by_one, NO_FLOWS, ((), (), ()))
        wide = ((TWO,), FLOWS)
        self.gives((HERE, ((Z, I), (Z, I)), THERE, ((I, Z), (I, Z)), HERE), one_by_one, wide, (HERE, THERE, THERE, HERE))
        for net, course in some_courses(60, 6):
            steps = [course[0]]
            for one, other in zip(course, course[1:]):
                moved = [flow for flow in range(len(one)) if one[flow] != other[flow]]
                steps += [taken_over(one, other, tuple(moved[:k])) for k in range(1, len(moved) + 1)]
            self.gives(tuple(steps), one_by_one, net, course)
            self.assertTrue(plainly_course(net, tuple(steps)))
            for one, other in zip(steps, steps[1:]):
                self.assertEqual(sum(a != b for a, b in zip(one, other)), 1)

    def test_kept_splits(self):
        self.gives((0,), kept_splits, NET, (HERE,))
        self.gives((0, 1), kept_splits, NET, (HERE, HERE))
        self.gives((0, 2), kept_splits, NET, (HERE, HERE, HERE))
        self.gives((0, 2), kept_splits, NO_FLOWS, ((), (), ()))
        amid = mixed(HERE, THERE, Fraction(1, 2))
        self.gives((0, 1, 2), kept_splits, NET, (HERE, amid, THERE))
        self.gives((0, 1, 3), kept_splits, NET, (HERE, amid, amid, THERE))
        self.gives((0, 3, 5), kept_splits, NET, (HERE, HERE, HERE, amid, amid, THERE))
        self.gives((0, 5), kept_splits, NET, (HERE, amid, THERE, THERE, amid, HERE))
        self.gives((0, 1, 7), kept_splits, NET, (HERE, amid, THERE, amid, HERE, HERE, amid, THERE))
        seen = {}
        for net, course in some_courses(150, 8):
            kept = best_kept(net, course)
            self.gives(kept, kept_splits, net, course)
            self.assertTrue(is_course(net, tuple(course[k] for k in kept)))
            seen[len(kept), len(kept) == len(course)] = True
        self.assertTrue({(2, False), (3, False), (4, False), (4, True)} <= set(seen), seen)

    def test_kept_splits_of_ways_cut_small(self):
        # Whether a turn is clean hangs on how far it goes: the more room, the fewer are kept.
        for parts, step in [(12, 1), (12, 2), (12, 5), (12, 12), (59, 1), (59, 4), (59, 58)]:
            net = ((fraction(1 + Fraction(step, parts)),), FLOWS)
            course = parts_of_way(net, HERE, THERE, parts)
            many = -(-parts // step)
            # The least ones: a short turn first, as far as whole ones have to follow.
            kept = kept_splits(net, course)
            self.assertEqual(len(kept), many + 1)
            if parts == 12:
                self.assertEqual(kept, best_kept(net, course))
            back = (0,) + tuple(sorted(parts - step * k for k in range(many)))
            self.assertEqual(kept, (0,) + tuple(max(k, at + 1) for at, k in enumerate(back[1:])))

    def test_sixty_splits_of_long_numbers(self):
        chance = random.Random(60)
        units = tuple(tuple(I if k == link else Z for k in range(6)) for link in range(6))
        flows = tuple(((k + 1, 7), units[k % 3:k % 3 + 4]) for k in range(5))
        bare = ((Z,) * 6, flows)
        ends = [tuple(long_shares(chance, demand, len(ways)) for demand, ways in flows) for _ in range(2)]
        course = parts_of_way(bare, ends[0], ends[1], 29)
        course = course + turned_about(course)
        self.assertEqual(len(course), 60)
        # Room for two parts at once, but for no more.
        rooms = greatest_loads(bare, tuple(course[k] for k in range(0, 60, 2)))
        net = rooms, flows
        self.assertTrue(is_course(net, course))
        self.gives((0, 59), kept_splits, net, course)
        kept = kept_splits(net, course[:30])
        self.assertTrue(is_course(net, tuple(course[k] for k in kept)))
        self.assertEqual((kept[0], kept[-1]), (0, 29))
        self.assertTrue(plainly_course(net, one_by_one(net, course[:3])))
        full = greatest_loads(bare, course), flows
        self.assertTrue(is_course(full, course))
        steps = kept_splits(full, course[:30] + course[30:59])
        self.assertEqual((steps[0], steps[-1]), (0, 58))
        self.assertFalse(is_course(full, (course[0], course[29])))


if __name__ == "__main__":
    unittest.main()
