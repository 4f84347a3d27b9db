"""Courses of clean turns, and roads that tell courses of very many turns."""

from neverjammed.errors import TooMany
from neverjammed.forms import is_integer, is_split
from neverjammed.fractions import added, compared, greatest_of, reduced
from neverjammed.nets import is_let, load_of, mean_of
from neverjammed.turns import is_clean, midst, turn_loads

MOST_SPLITS = 60


def is_course(net, thing):
    """Whether thing is a COURSE."""
    if not isinstance(thing, tuple) or not thing:
        return False
    if not all([is_split(net, split) for split in thing]) or not is_let(net, thing[0]):
        return False
    return all([is_clean(net, here, there) for here, there in zip(thing, thing[1:])])


def is_road(net, thing):
    """Whether thing is a ROAD."""
    if not isinstance(thing, tuple) or len(thing) != 2:
        return False
    here, stretches = thing
    if not is_split(net, here) or not is_let(net, here) or not isinstance(stretches, tuple):
        return False
    for stretch in stretches:
        if not _is_stretch(net, here, stretch):
            return False
        here = stretch[0]
    return True


def turns_of(road):
    """The number of the TURNS of a road."""
    return sum([stretch[1] for stretch in road[1]])


def end_of(road):
    """The split to which a road leads."""
    split, stretches = road
    return stretches[-1][0] if stretches else split


def course_of(road):
    """The COURSE that a road tells: TooMany(60) if it has more than 60 splits."""
    if turns_of(road) + 1 > MOST_SPLITS:
        raise TooMany(MOST_SPLITS)
    course = [road[0]]
    for there, many in road[1]:
        here = course[-1]
        course.extend([_split_on_way(here, there, part, many) for part in range(1, many + 1)])
    return tuple(course)


def turned_about(course):
    """The course the other way about."""
    return course[::-1]


def parts_of_way(net, one, other, many):
    """The splits that cut the straight way in so many equal parts, both ends among them."""
    return tuple([_split_on_way(one, other, part, many) for part in range(many + 1)])


def greatest_loads(net, course):
    """For each link the greatest load in any MIDST of any turn, or in the only split."""
    # The last split and itself stand for a turn more, so that there always is one.
    turns = list(zip(course, course[1:] + course[-1:]))
    rows = [turn_loads(net, here, there) for here, there in turns]
    return tuple([greatest_of([row[link] for row in rows]) for link in range(len(net[0]))])


def one_by_one(net, course):
    """The course in which the flows of each turn take over one behind the other."""
    steps = [course[0]]
    for there in course[1:]:
        for flow in range(len(net[1])):
            if there[flow] != steps[-1][flow]:
                steps.append(midst(net, steps[-1], there, (flow,)))
    return tuple(steps)


def kept_splits(net, course):
    """The indexes of the fewest splits that are a course with the same ends, the least such ones."""
    loads = [_loads_of_flows(net, split) for split in course]
    last = len(course) - 1
    kept = {last: (last,)}
    for index in reversed(range(last)):
        kept[index] = (index,) + _kept_behind(net, loads, kept, index)
    return kept[0]


def _is_stretch(net, here, thing):
    if not isinstance(thing, tuple) or len(thing) != 2:
        return False
    there, many = thing
    if not is_split(net, there) or not is_integer(many) or many < 1:
        return False
    # The loads go straight, so that no part of the way bears more than both the first and the last.
    first = _split_on_way(here, there, 1, many)
    last = _split_on_way(here, there, many - 1, many)
    return is_clean(net, here, first) and is_clean(net, last, there)


def _split_on_way(one, other, part, many):
    return mean_of((one, other), (reduced(many - part, many), reduced(part, many)))


def _kept_behind(net, loads, kept, index):
    # Best first, so that the first clean turn leads on by the fewest splits, and the least such ones.
    for there in sorted(kept, key=lambda at: (len(kept[at]), at)):
        if _is_clean_turn(net, loads[index], loads[there]):
            return kept[there]
    return None


def _loads_of_flows(net, split):
    return [
        [load_of(net, split, flow, link) for flow in range(len(net[1]))]
        for link in range(len(net[0]))
    ]


def _is_clean_turn(net, here, there):
    """Whether a turn is clean by the loads of all flows, which are added up only once for each split."""
    return all([
        compared(added([greatest_of(loads) for loads in zip(ones, others)]), room) <= 0
        for room, ones, others in zip(net[0], here, there)
    ])
