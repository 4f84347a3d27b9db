"""Turns from one split to another, the flows taking over in any order."""

from neverjammed.fractions import ONE, ZERO, added, compared, greatest_of, least_of, less, over
from neverjammed.nets import load_of, loads_on


def midst(net, one, other, lot):
    """The split in which the flows of the lot have taken over, all others not yet."""
    return tuple([
        other[flow] if flow in lot else one[flow] for flow in range(len(net[1]))
    ])


def is_clean(net, one, other):
    """Whether each midst of the turn is let."""
    loads = turn_loads(net, one, other)
    return all([compared(load, room) <= 0 for load, room in zip(loads, net[0])])


def turn_loads(net, one, other):
    """For each link the greatest load of a midst of the turn."""
    return tuple([_greatest_load(net, one, other, link) for link in range(len(net[0]))])


def growths(net, one, other):
    """For each link the sum of how much greater the loads of the flows are in other."""
    return tuple([_growth(net, one, other, link) for link in range(len(net[0]))])


def worst_lot(net, one, other, link):
    """The greatest load of a midst on a link, and the lot of the flows that grow there."""
    lot = tuple([
        flow for flow, (here, there) in enumerate(_both_loads(net, one, other, link))
        if compared(there, here) > 0
    ])
    return _greatest_load(net, one, other, link), lot


def lacking_room(net, one, other):
    """For each link by how much the greatest load of a midst is above its room, or 0."""
    loads = turn_loads(net, one, other)
    return tuple([greatest_of((ZERO, less(load, room))) for load, room in zip(loads, net[0])])


def clean_part(net, one, other):
    """The greatest part of the straight way from one to other that is a clean turn."""
    # Over a part s of the way just s times the growth comes to the loads of one.
    parts = [ONE]
    for room, load, growth in zip(net[0], loads_on(net, one), growths(net, one, other)):
        if compared(growth, ZERO) > 0:
            parts.append(over(less(room, load), growth))
    return least_of(parts)


def _both_loads(net, one, other, link):
    return [
        (load_of(net, one, flow, link), load_of(net, other, flow, link))
        for flow in range(len(net[1]))
    ]


def _growth(net, one, other, link):
    return added([
        greatest_of((ZERO, less(there, here)))
        for here, there in _both_loads(net, one, other, link)
    ])


def _greatest_load(net, one, other, link):
    # Each flow bears most by the greater one of its two loads, whatever the others do.
    return added([greatest_of(loads) for loads in _both_loads(net, one, other, link)])
