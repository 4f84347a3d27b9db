"""LOTS, the ascending tuples of indexes."""


def all_of(row):
    """The LOT of all indexes of a row."""
    return tuple(range(len(row)))


def parts_of(lot):
    """The ascending list of all LOTS whose members are all in the lot."""
    lots = [()]
    for index in lot:
        lots = lots + [part + (index,) for part in lots]
    return sorted(lots)


def together(one, other):
    """The LOT of the members of both, which have none in common."""
    return tuple(sorted(one + other))


def without(lot, others):
    """The LOT of the members of a lot that are not among others."""
    return tuple([index for index in lot if index not in others])


def least_lots(row, holds):
    """The ascending list of the LOTS of indexes of a row for which it holds, but for none of their parts."""
    found = []
    for lot in sorted(parts_of(all_of(row)), key=len):
        if not any([without(part, lot) == () for part in found]) and holds(lot):
            found.append(lot)
    return sorted(found)
