"""Whether so many turns are enough, shown by a course or by a JAM PAPER.

Splits amid are those with the indexes from 1 to count - 1. An item (turn, link, lot) says that by the
midst of this turn by this lot the link bears no more than its room.
"""

from neverjammed.forms import is_fraction, is_integer, is_lot
from neverjammed.fractions import ONE, ZERO, added, compared, less, times
from neverjammed.joining import are_joined
from neverjammed.lots import all_of, parts_of
from neverjammed.nets import load_of
from neverjammed.prices import least_cost
from neverjammed.simplex import least_sum


def turns_within(net, one, other, count):
    """A COURSE of at most so many TURNS, as short as there is, None if there is none."""
    if one == other:
        return (one,)
    if not are_joined(net, one, other):
        return None
    for many in range(1, count + 1):
        course = _course_or_paper(net, one, other, many)[0]
        if course is not None:
            return course
    return None


def fewest_turns(net, one, other, most):
    """The fewest TURNS of a COURSE, None if more than most are needed or there is none."""
    course = turns_within(net, one, other, most)
    return None if course is None else len(course) - 1


def jam_paper(net, one, other, count):
    """A JAM PAPER of so many turns, None if there is a course of at most so many."""
    return _course_or_paper(net, one, other, count)[1]


def is_jam_paper(net, one, other, count, thing):
    """Whether thing is a JAM PAPER of so many turns."""
    if not isinstance(thing, dict):
        return False
    if not all([_is_item(net, count, key) for key in thing]):
        return False
    if not all([is_fraction(number) and number[0] > 0 for number in thing.values()]):
        return False
    rooms = [times(number, net[0][key[1]]) for key, number in thing.items()]
    return compared(_loads_of_paper(net, one, other, count, thing), added(rooms)) > 0


def _is_item(net, count, thing):
    if not isinstance(thing, tuple) or len(thing) != 3:
        return False
    turn, link, lot = thing
    if not is_integer(turn) or not is_integer(link) or not is_lot(len(net[1]), lot):
        return False
    return 0 <= turn < count and 0 <= link < len(net[0])


def _loads_of_paper(net, one, other, count, paper):
    """The LOADS of a paper: those of one and other, and the least costs of the shares amid."""
    ends = {0: one, count: other}
    loads = [ZERO]
    prices = {}
    for (turn, link, lot), number in paper.items():
        for flow in range(len(net[1])):
            index = _index_in(turn, lot, flow)
            if index in ends:
                loads.append(times(number, load_of(net, ends[index], flow, link)))
            else:
                row = prices.setdefault((index, flow), [ZERO] * len(net[0]))
                row[link] = added((row[link], number))
    for (index, flow), row in prices.items():
        loads.append(times(net[1][flow][0], least_cost(net, flow, row)))
    return added(loads)


def _index_in(turn, lot, flow):
    """The index of the split in which the flow stands in the midst of a turn by a lot."""
    return turn + 1 if flow in lot else turn


def _course_or_paper(net, one, other, count):
    """A tuple (course, paper): a COURSE of just so many turns, or a JAM PAPER, and None for the other one.

    The simplex looks for the paper that lets the rooms less the loads fall the most, all of its numbers
    together being at most 1. If it finds none, its own prices are the shares amid: one for each way.
    """
    flows = all_of(net[1])
    items = [
        (turn, link, lot) for turn in range(count) for link in range(len(net[0])) for lot in parts_of(flows)
    ]
    groups = [(index, flow) for index in range(1, count) for flow in flows]
    places = [(index, flow, way) for index, flow in groups for way in range(len(net[1][flow][1]))]
    demands = [net[1][group[1]][0] for group in groups]
    costs = [_room_left(net, one, other, count, item) for item in items]
    costs += [less(ZERO, demand) for demand in demands] + demands + [ZERO] * (len(places) + 1)
    rows = [_row_of_way(net, items, groups, places, place) for place in places]
    rows.append((ONE,) * len(items) + (ZERO,) * (len(costs) - len(items) - 1) + (ONE,))
    least, numbers, prices = least_sum(costs, rows, [ZERO] * len(places) + [ONE])
    if least != ZERO:
        return None, {item: number for item, number in zip(items, numbers) if number != ZERO}
    shares = dict(zip(places, prices))
    amid = [_split_amid(net, shares, index) for index in range(1, count)]
    return (one,) + tuple(amid) + (other,), None


def _row_of_way(net, items, groups, places, place):
    """What items cost a way is no less than the number of its split and flow: their least cost."""
    index, flow, way = place
    takings = net[1][flow][1][way]
    costs = [takings[link] if _index_in(turn, lot, flow) == index else ZERO for turn, link, lot in items]
    least = [ONE if group == (index, flow) else ZERO for group in groups]
    above = [(-1, 1) if other == place else ZERO for other in places]
    return tuple(costs + [less(ZERO, part) for part in least] + least + above + [ZERO])


def _room_left(net, one, other, count, item):
    """The room of the item's link, less the loads of the flows that stand in one or in other."""
    turn, link, lot = item
    ends = {0: one, count: other}
    loads = []
    for flow in range(len(net[1])):
        index = _index_in(turn, lot, flow)
        if index in ends:
            loads.append(load_of(net, ends[index], flow, link))
    return less(net[0][link], added(loads))


def _split_amid(net, shares, index):
    return tuple([
        tuple([shares[(index, flow, way)] for way in range(len(net[1][flow][1]))])
        for flow in range(len(net[1]))
    ])
