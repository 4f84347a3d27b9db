"""Whether one split can be led to another by clean turns, with a road or with what bars."""

from neverjammed.courses import turned_about
from neverjammed.forms import is_integer, is_lot
from neverjammed.lockpapers import is_lock_paper, lock_paper
from neverjammed.locks import lock_of
from neverjammed.loosening import even_parts, loosened
from neverjammed.nets import agree


def are_joined(net, one, other):
    """Whether two splits are JOINED."""
    lock = lock_of(net, one)
    return lock == lock_of(net, other) and agree(net, one, other, lock)


def road_between(net, one, other):
    """A ROAD from one split to another, None if they are not JOINED."""
    if not are_joined(net, one, other):
        return None
    ahead = loosened(net, one)
    behind = turned_about(loosened(net, other))
    # Both ends of the straight way have room left on all links but those on which the splits agree.
    parts = even_parts(net, ahead[-1], behind[0])
    stretches = [(split, 1) for split in ahead[1:]]
    stretches.append((behind[0], parts))
    stretches.extend([(split, 1) for split in behind[1:]])
    return one, tuple(stretches)


def bar_between(net, one, other):
    """A BAR of two splits, None if they are JOINED."""
    for which, split in enumerate((one, other)):
        lock = lock_of(net, split)
        # If they agree on both LOCKS, each one is locked at both splits, so that they are the same.
        if not agree(net, one, other, lock):
            return which, lock, lock_paper(net, split, lock)
    return None


def is_bar(net, one, other, thing):
    """Whether thing is a BAR of two splits."""
    if not isinstance(thing, tuple) or len(thing) != 3:
        return False
    which, lot, paper = thing
    if not is_integer(which) or which not in (0, 1) or not is_lot(len(net[0]), lot):
        return False
    if agree(net, one, other, lot):
        return False
    return is_lock_paper(net, (one, other)[which], lot, paper)
