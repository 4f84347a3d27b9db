"""LOTS, the ascending tuples of indexes."""


def parts_of(lot):
    """The ascending list of all LOTS whose members are all in the lot."""
    lots = [()]
    for index in lot:
        lots = lots + [part + (index,) for part in lots]
    return sorted(lots)


def together(one, other):
    """The LOT of the members of both, which have none in common."""
    return tuple(sorted(one + other))


def without(lot, others):
    """The LOT of the members of a lot that are not among others."""
    return tuple([index for index in lot if index not in others])
