"""The document's own examples, as they stand, and that of README.md."""

import doctest
import io
import pathlib
import unittest

README = pathlib.Path(__file__).resolve().parent.parent / "README.md"

TEXTS = r'''
>>> from neverjammed.nets import agree, full_links, is_let, load_of, loads_on, mean_split, net_beside
>>> from neverjammed.reader import read_net, read_split
>>> from neverjammed.texts import show_net, show_split
>>> net = read_net("rooms 1 3/2\nflow 1\nway 1 0\nway 0 2\n# one more\nflow 1/2\nway 1 1")
>>> net
(((1, 1), (3, 2)), (((1, 1), (((1, 1), (0, 1)), ((0, 1), (2, 1)))), ((1, 2), (((1, 1), (1, 1)),))))
>>> split = read_split(net, "shares 1/2 1/2\nshares 1/2")
>>> [split, loads_on(net, split), load_of(net, split, 0, 1), full_links(net, split), is_let(net, split)]
[(((1, 2), (1, 2)), ((1, 2),)), ((1, 1), (3, 2)), (1, 1), (0, 1), True]
>>> other = (((1, 1), (0, 1)), ((1, 2),))
>>> [is_let(net, other), agree(net, split, other, ()), agree(net, split, other, (0,)), show_split(other)]
[False, True, False, 'shares 1 0\nshares 1/2']
>>> mean_split(net, (split, other), ((1, 2), (1, 2)))
(((3, 4), (1, 4)), ((1, 2),))
>>> [show_net(net_beside((((1, 1),), ()), ((), (((2, 1), ((),)),)))), read_net("rooms")]
['rooms 1\nflow 2\nway 0', ((), ())]
'''

COURSES = r'''
>>> from neverjammed.courses import course_of, end_of, greatest_loads, is_course, is_road, kept_splits, one_by_one
>>> from neverjammed.courses import parts_of_way, turned_about, turns_of
>>> from neverjammed.orders import clean_order, let_lots, orders_many, waves_of
>>> from neverjammed.turns import clean_part, growths, is_clean, lacking_room, midst, worst_lot
>>> one, zero, half = (1, 1), (0, 1), (1, 2)
>>> net = (((3, 2),), ((one, ((one,), (zero,))), (one, ((one,), (zero,)))))
>>> here, there = ((one, zero), (zero, one)), ((zero, one), (one, zero))
>>> [is_clean(net, here, there), worst_lot(net, here, there, 0), lacking_room(net, here, there), growths(net, here, there)]
[False, ((2, 1), (1,)), ((1, 2),), ((1, 1),)]
>>> [midst(net, here, there, (0,)), clean_part(net, here, there)]
[(((0, 1), (1, 1)), ((0, 1), (1, 1))), (1, 2)]
>>> [let_lots(net, here, there), clean_order(net, here, there), orders_many(net, here, there), waves_of(net, here, there)]
[[(), (0,), (0, 1)], (0, 1), 1, ((0,), (1,))]
>>> course = parts_of_way(net, here, there, 2)
>>> [course[1], is_course(net, course), is_course(net, (here, there)), greatest_loads(net, course)]
[(((1, 2), (1, 2)), ((1, 2), (1, 2))), True, False, ((3, 2),)]
>>> [one_by_one(net, course)[1], len(one_by_one(net, course)), kept_splits(net, course), kept_splits(net, (here, here, here))]
[(((1, 2), (1, 2)), ((0, 1), (1, 1))), 5, (0, 1, 2), (0, 2)]
>>> turned_about(course) == parts_of_way(net, there, here, 2)
True
>>> road = (here, ((there, 2), (there, 5)))
>>> [is_road(net, road), is_road(net, (here, ((there, 1),))), turns_of(road), end_of((here, ())) == here]
[True, False, 7, True]
>>> course_of((here, ((there, 2),))) == course
True
'''

PRICES = r'''
>>> from neverjammed.prices import are_prices_for, cheapest_ways, is_cheapest, least_cost, prices_for, way_cost
>>> from neverjammed.shares import better_shares, efficient_shares, is_better, is_efficient, least_load, lessened
>>> one, zero, half = (1, 1), (0, 1), (1, 2)
>>> left, right, both = (one, zero), (zero, one), (one, one)
>>> net = ((one, one), ((one, (left, right, both)),))
>>> wide, mean = (zero, zero, one), (half, half, zero)
>>> [is_efficient(net, 0, wide, (0, 1)), is_efficient(net, 0, mean, (0, 1)), is_efficient(net, 0, mean, (0,)), is_efficient(net, 0, wide, ())]
[False, True, False, True]
>>> [is_better(net, 0, wide, (0, 1), (one, zero, zero)), is_better(net, 0, mean, (0, 1), (one, zero, zero)), better_shares(net, 0, mean, (0, 1))]
[True, False, None]
>>> [lessened(net, 0, wide, (0, 1)), lessened(net, 0, mean, (0,)), least_load(net, 0, mean, (0, 1), 0), least_load(net, 0, mean, (0,), 0)]
[(0, 1), (0,), (1, 2), (0, 1)]
>>> [way_cost(net, 0, 2, (one, half)), least_cost(net, 0, (one, half)), cheapest_ways(net, 0, (one, one)), is_cheapest(net, 0, mean, (one, half))]
[(3, 2), (1, 2), (0, 1), False]
>>> [are_prices_for(net, 0, mean, (0, 1), (one, one)), are_prices_for(net, 0, mean, (0, 1), (one, zero)), prices_for(net, 0, wide, (0, 1))]
[True, False, None]
>>> [efficient_shares(net, 0, mean, (0, 1)) == mean, is_efficient(net, 0, efficient_shares(net, 0, wide, (0, 1)), (0, 1))]
[True, True]
'''

LOCKS = r'''
>>> from neverjammed.lockpapers import is_lock_paper, lock_paper, unlocking
>>> from neverjammed.locks import is_locked, lock_of, locked_lots, thinned
>>> one, zero, half = (1, 1), (0, 1), (1, 2)
>>> left, right, spare = (one, zero, zero), (zero, one, zero), (zero, zero, one)
>>> rooms = (one, one, half)
>>> net = (rooms, ((one, (left, right)), (one, (left, right))))
>>> split = ((one, zero), (zero, one))
>>> [lock_of(net, split), locked_lots(net, split), thinned(net, split)]
[(0, 1), [(), (0, 1)], [(0, 1)]]
>>> [is_locked(net, split, (0,)), lock_paper(net, split, (0,)), unlocking(net, split, (0, 2)), unlocking(net, split, (0,))[0]]
[False, None, (2,), 0]
>>> [is_lock_paper(net, split, (0, 1), ((one, one, zero),) * 2), is_lock_paper(net, split, (0, 1), ((one, half, zero),) * 2)]
[True, False]
>>> wider = (rooms, ((one, (left, right, spare)), (one, (left, right))))
>>> [thinned(wider, ((one, zero, zero), (zero, one))), lock_of(wider, ((half, zero, half), (zero, one)))]
[[(0, 1), (1,), ()], ()]
'''

JOINING = r'''
>>> from neverjammed.joining import are_joined, bar_between, is_bar, road_between
>>> from neverjammed.loosening import even_parts, loosened
>>> one, zero, half = (1, 1), (0, 1), (1, 2)
>>> left, right, spare = (one, zero, zero), (zero, one, zero), (zero, zero, one)
>>> flows = ((one, (left, right)), (one, (left, right)))
>>> here, there = ((one, zero), (zero, one)), ((zero, one), (one, zero))
>>> net, paper = ((one, one, half), flows), ((one, one, zero),) * 2
>>> [are_joined(net, here, there), road_between(net, here, there), loosened(net, here) == (here,)]
[False, None, True]
>>> [is_bar(net, here, there, (0, (0, 1), paper)), is_bar(net, here, here, (0, (0, 1), paper))]
[True, False]
>>> [even_parts(net, here, there), even_parts((((3, 2), (3, 2), half), flows), here, there)]
[None, 2]
>>> wider = ((one, one, half), ((one, (left, right, spare)), flows[1]))
>>> here, there = ((one, zero, zero), (zero, one)), ((zero, one, zero), (one, zero))
>>> road = road_between(wider, here, there)
>>> [road[0] == here, road[1][-1][0] == there, bar_between(wider, here, there), even_parts(wider, here, here)]
[True, True, None, 1]
'''

FEWEST = r'''
>>> from neverjammed.fewest import fewest_turns, is_jam_paper, jam_paper, turns_within
>>> one, zero = (1, 1), (0, 1)
>>> net = (((3, 2),), ((one, ((one,), (zero,))), (one, ((one,), (zero,)))))
>>> here, there = ((one, zero), (zero, one)), ((zero, one), (one, zero))
>>> [fewest_turns(net, here, there, 3), fewest_turns(net, here, there, 1), fewest_turns(net, here, here, 0)]
[2, None, 0]
>>> [turns_within(net, here, there, 1), jam_paper(net, here, there, 2), turns_within(net, here, here, 0) == (here,)]
[None, None, True]
>>> [is_jam_paper(net, here, there, 1, {(0, 0, (1,)): (5, 1)}), is_jam_paper(net, here, there, 1, {(0, 0, (0,)): (5, 1)})]
[True, False]
>>> left, right = (one, zero), (zero, one)
>>> full = ((one, one), ((one, (left, right)), (one, (left, right))))
>>> is_jam_paper(full, here, there, 2, {(0, 1, (0,)): one, (1, 0, (1,)): one})
True
>>> [is_jam_paper(full, here, there, 2, {(0, 1, (0,)): one}), is_jam_paper(full, here, there, 2, {}), fewest_turns(full, here, there, 2)]
[False, False, None]
'''

COSTS = r'''
>>> from neverjammed.cheapest import cheapest, cost_of, near_split
>>> from neverjammed.costpapers import is_cost_paper, sum_of_paper
>>> one, zero, half = (1, 1), (0, 1), (1, 2)
>>> left, right = (one, zero), (zero, one)
>>> net = ((one, one), ((one, (left, right)), (one, ((half, zero), right))))
>>> free, locked = ((zero, one), (one, zero)), ((one, zero), (zero, one))
>>> costs = ((zero, one), (one, zero))
>>> [cost_of(net, free, costs), cheapest(net, free, costs), cost_of(net, near_split(net, free, costs, (1, 4)), costs)[0] > 0]
[(2, 1), ('neared', (0, 1), (((1, 1), (0, 1)), ((0, 1), (1, 1)))), True]
>>> [cheapest(net, locked, ((one, zero), (zero, one)))[:2], cheapest(net, free, ((one, zero), (zero, one)))[:2]]
[('reached', (2, 1)), ('reached', (0, 1))]
>>> paper = ((zero, zero), ((zero, zero), (zero, zero)))
>>> [sum_of_paper(net, free, costs, paper), is_cost_paper(net, free, costs, zero, paper), is_cost_paper(net, free, costs, one, paper)]
[(0, 1), True, False]
>>> is_cost_paper(net, locked, ((one, zero), (zero, one)), (2, 1), ((zero, zero), (((-1, 1), zero), (zero, (-1, 1)))))
True
'''

INNER = r'''
>>> from neverjammed.inner import is_inner, is_none_paper, let_split, need_of
>>> from neverjammed.lockable import all_joined, cheapest_lots, lockable_lots, split_locking
>>> one, zero, half = (1, 1), (0, 1), (1, 2)
>>> left, right, both = (one, zero), (zero, one), (half, half)
>>> net = ((one, one), ((one, (left, right)), (one, (left, right))))
>>> [need_of(net), lockable_lots(net), all_joined(net), is_inner(net, ((one, zero), (zero, one)))]
[(0, 1), [(), (0, 1)], False, True]
>>> [cheapest_lots(net, 0, (0, 1)), cheapest_lots(net, 0, (0,)), cheapest_lots(net, 0, ())]
[[(0, 1)], [(1,)], [(0, 1)]]
>>> [cheapest_lots((net[0], ((one, (left, both, right)),)), 0, (0, 1)), split_locking(net, (0,))]
[[(0, 1, 2)], None]
>>> wide = (((2, 1), (1, 1)), net[1])
>>> [need_of(wide), lockable_lots(wide), all_joined(wide), lockable_lots(((half, one), net[1]))]
[(), [()], True, []]
>>> [is_none_paper(((half, one), net[1]), (one, one)), is_none_paper(net, (one, one)), is_none_paper(((), ()), ())]
[True, False, False]
'''

FREEING = r'''
>>> from neverjammed.freeing import freeing_flows, freeing_links, frees_by_links, idle_net, idle_split
>>> from neverjammed.freeing import road_with_idle, road_with_wider, wider_net
>>> one, zero, half = (1, 1), (0, 1), (1, 2)
>>> left, right = (one, zero), (zero, one)
>>> net = ((one, one), ((one, (left, right)), (one, (left, right))))
>>> here, there = ((one, zero), (zero, one)), ((zero, one), (one, zero))
>>> [freeing_links(net, here, there), freeing_flows(net, here, there), freeing_links(net, here, here)]
[[(0,), (1,)], [(0,), (1,)], [()]]
>>> [frees_by_links(net, here, there, ()), frees_by_links(net, here, there, (0, 1)), wider_net(net, (1,), half)[0]]
[False, True, ((1, 1), (3, 2))]
>>> [idle_net(net, (0,))[1][0], idle_split(net, here, (0,))]
[((1, 1), (((1, 1), (0, 1)), ((0, 1), (1, 1)), ((0, 1), (0, 1)))), (((1, 1), (0, 1), (0, 1)), ((0, 1), (1, 1)))]
>>> road = road_with_wider(net, here, there, (1,), half)
>>> [road[0] == here, road[1][-1][0] == there, road_with_wider(net, here, there, (), half), road_with_idle(net, here, there, ())]
[True, True, None, None]
'''

CONTROL = r'''
>>> from neverjammed.control import Control
>>> one, zero, half = (1, 1), (0, 1), (1, 2)
>>> left, right, spare = (one, zero, zero), (zero, one, zero), (zero, zero, one)
>>> net = ((one, one, one), ((one, (left, right, spare)), (one, (left, right))))
>>> here, aside = ((one, zero, zero), (zero, one)), ((zero, zero, one), (zero, one))
>>> there = ((zero, zero, one), (one, zero))
>>> control = Control(net, here)
>>> [control.can_order(there), control.order(aside), control.worst_loads(), control.must_hear(there)]
[False, 1, ((1, 1), (1, 1), (1, 1)), [(0,)]]
>>> [control.pending(0), control.may_stand(here), control.may_stand(there), control.sure_split()]
[[(0, ((1, 1), (0, 1), (0, 1))), (1, ((0, 1), (0, 1), (1, 1)))], True, False, None]
>>> [control.heard(0, 1), control.must_hear(there), control.order(there), control.worst_numbers(0), control.worst_loads()]
[None, [()], 2, (1, 2), ((1, 1), (1, 1), (1, 1))]
>>> [control.heard(0, 2), control.heard(1, 2), control.sure_split() == there, control.twin() == control, control == Control(net, there)]
[None, None, True, True, False]
'''

DESK = r'''
>>> from neverjammed.desk import Desk
>>> ways = "\nway 1 0 0\nway 0 1 0"
>>> desk = Desk("rooms 1 1 1\nflow 1" + ways + "\nway 0 0 1\nflow 1" + ways + "\nshares 1 0 0\nshares 0 1")
>>> [desk.execute(line) for line in ["order 0 0 1 ; 1 0", "order 0 0 1 ; 0 1", "hear 0 0 1 ; 1 0", "sure", "heard 0 1", "pending 1"]]
[['refused Jammed 0'], ['1'], ['0'], ['not sure'], ['done'], ['0 0 1', '1 0 1']]
>>> [desk.execute(line) for line in ["worst", "sure", "lock", "joined 0 1 0 ; 1 0", "heard 2 0", "heard 1 1"]]
[['0 1 1'], ['shares 0 0 1', 'shares 0 1'], [''], ['yes'], ['refused NoFlow'], ['done']]
'''


class ExamplesTest(unittest.TestCase):

    def holds(self, name, text, many):
        told = io.StringIO()
        test = doctest.DocTestParser().get_doctest(text, {}, name, None, None)
        result = doctest.DocTestRunner(verbose=False).run(test, out=told.write)
        self.assertEqual((result.failed, result.attempted), (0, many), told.getvalue())

    def test_texts(self):
        self.holds("[15]", TEXTS, 11)

    def test_turns_orders_and_courses(self):
        self.holds("[18]", COURSES, 17)

    def test_shares_and_prices(self):
        self.holds("[20]", PRICES, 12)

    def test_locks_and_their_papers(self):
        self.holds("[22]", LOCKS, 12)

    def test_loosening_and_joining(self):
        self.holds("[24]", JOINING, 14)

    def test_turns_enough(self):
        self.holds("[25]", FEWEST, 11)

    def test_the_cheapest_and_papers_of_costs(self):
        self.holds("[27]", COSTS, 12)

    def test_inner_splits_and_lots_that_can_be_locked(self):
        self.holds("[29]", INNER, 11)

    def test_lots_that_set_free(self):
        self.holds("[30]", FREEING, 11)

    def test_control(self):
        self.holds("[31]", CONTROL, 11)

    def test_desk(self):
        self.holds("[32]", DESK, 5)

    def test_readme(self):
        self.holds("README.md", README.read_text(), 43)


if __name__ == "__main__":
    unittest.main()
