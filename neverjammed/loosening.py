"""Courses on which full links come free, and equal parts of the straight way."""

from neverjammed.fractions import ZERO, compared, less, over, reduced
from neverjammed.nets import full_links, loads_on, mean_of
from neverjammed.shares import better_shares
from neverjammed.turns import clean_part, growths


def loosened(net, split):
    """A COURSE from the split to one at which just the links of its LOCK are FULL."""
    course = [split]
    goal = _looser(net, split)
    while goal is not None:
        course.append(_half_of_clean_way(net, course[-1], goal))
        goal = _looser(net, course[-1])
    return tuple(course)


def even_parts(net, one, other):
    """The fewest equal parts of the straight way that all are clean turns, None if there are none."""
    parts = 1
    for split, grown in [(one, growths(net, one, other)), (other, growths(net, other, one))]:
        for room, load, growth in zip(net[0], loads_on(net, split), grown):
            if compared(growth, ZERO) > 0:
                if room == load:
                    return None
                parts = max(parts, _rounded_up(over(growth, less(room, load))))
    return parts


def _looser(net, split):
    """The split in which some flow has shares that are BETTER on all FULL links, None if none has."""
    full = full_links(net, split)
    for flow, shares in enumerate(split):
        better = better_shares(net, flow, shares, full)
        if better is not None:
            return split[:flow] + (better,) + split[flow + 1:]
    return None


def _half_of_clean_way(net, split, goal):
    # Only half of it, so that no link becomes full that was not.
    num, den = clean_part(net, split, goal)
    part = reduced(num, 2 * den)
    return mean_of((split, goal), (less((1, 1), part), part))


def _rounded_up(part):
    return -(-part[0] // part[1])
