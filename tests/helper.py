"""What the tests share: nets to try, values of any kind, and a second reckoning in Fraction."""

import random
import unittest
from fractions import Fraction
from itertools import combinations, product

from neverjammed import errors

Z, H, I = (0, 1), (1, 2), (1, 1)
TWO = (2, 1)


class Case(unittest.TestCase):
    """A test of functions that leave what they are handed as it was."""

    def gives(self, expected, function, *arguments):
        """The result is this one, of this kind itself: 1 is not True."""
        before = repr(arguments)
        result = function(*arguments)
        self.assertEqual(result, expected, (function.__name__, *arguments))
        self.assertIs(type(result), type(expected))
        self.assertEqual(repr(arguments), before)


def deep(depth):
    """A tuple in a tuple, so many deep."""
    thing = ()
    for _ in range(depth - 1):
        thing = (thing,)
    return thing


# Nothing of this is a FRACTION, a NET, SHARES, a SPLIT, PRICES or COSTS of the nets here.
ODD_VALUES = (
    None, True, False, 0, 1, -1, 7, 10 ** 39, -(10 ** 39), "", "rooms 1", "(1, 1)", "\n", "# " * 900,
    [], [1], [(1, 1)], [1, 1], {}, {0: (1, 1)}, {(0, 1): 1}, {"a": [None]}, [[[]]],
    deep(20), deep(3), (deep(19), deep(18)), ((), (), ()), tuple([None] * 3000), [0] * 3000,
    errors.Wrong(0), errors.NoCommand(), errors.NoneLet([1]), (errors.Wrong(0), errors.Wrong(1)),
    (None, None), (True, True), (False, True), (1,), (1, 1, 1), ("1", "1"), ((1, 1), 1), (1, (1, 1)),
)


def spoiled(thing):
    """All values that are thing with one part otherwise, at any place."""
    others = [None, True, False, "1", [], {}, errors.Wrong(1)]
    if isinstance(thing, tuple):
        others += [list(thing), thing + ((0, 1),), thing + (0,), thing + (None,), thing + thing[-1:]]
        others += [thing[:-1], thing[1:], {k: part for k, part in enumerate(thing)}, 0, 1, str(thing)]
        others += [tuple(reversed(thing))]
    elif isinstance(thing, int):
        others += [thing + 1, thing - 1, -thing, thing * 2, 0, 1, (thing,), (thing, 1), str(thing)]
    yield from others
    if isinstance(thing, tuple):
        for k, part in enumerate(thing):
            for other in spoiled(part):
                yield thing[:k] + (other,) + thing[k + 1:]


def number(part):
    """The number for which a FRACTION stands."""
    return Fraction(part[0], part[1])


def fraction(value):
    """The FRACTION that stands for a number."""
    value = Fraction(value)
    return value.numerator, value.denominator


def loads_of_flow(net, split, flow):
    """The loads of a flow on all links, as numbers."""
    ways = net[1][flow][1]
    return [
        sum(number(share) * number(way[link]) for share, way in zip(split[flow], ways))
        for link in range(len(net[0]))
    ]


def loads(net, split):
    """The loads of a split on all links, as numbers."""
    rows = [loads_of_flow(net, split, flow) for flow in range(len(net[1]))]
    return [sum((row[link] for row in rows), Fraction(0)) for link in range(len(net[0]))]


def fits(net, split):
    """Whether a split is let."""
    return all(load <= number(room) for load, room in zip(loads(net, split), net[0]))


def lots(many):
    """All lots of indexes below many."""
    return [lot for size in range(many + 1) for lot in combinations(range(many), size)]


def taken_over(one, other, lot):
    """The midst of a turn by a lot of flows."""
    split = list(one)
    for flow in lot:
        split[flow] = other[flow]
    return tuple(split)


def midsts(one, other):
    """All midsts of a turn."""
    return [taken_over(one, other, lot) for lot in lots(len(one))]


def mixed(one, other, part):
    """The split that lies so far on the straight way from one to other."""
    return tuple(
        tuple(fraction((1 - part) * number(a) + part * number(b)) for a, b in zip(here, there))
        for here, there in zip(one, other)
    )


def some_shares(chance, demand, many):
    """Shares of so many ways that come to the demand, often 0."""
    weights = [chance.choice([0, 0, 1, 1, 2, 3, 5]) for _ in range(many)]
    if not any(weights):
        weights[chance.randrange(many)] = 1
    return tuple(fraction(number(demand) * w / sum(weights)) for w in weights)


def some_split(chance, flows):
    """A split of these flows."""
    return tuple(some_shares(chance, demand, len(ways)) for demand, ways in flows)


def some_flows(chance, links):
    """At most four flows, some without a demand, some with ways that take nothing."""
    flows = []
    for _ in range(chance.randrange(5)):
        demand = fraction(Fraction(chance.randrange(7), chance.randrange(1, 5)))
        ways = tuple(
            tuple(fraction(Fraction(max(0, chance.randrange(-2, 5)), chance.randrange(1, 4)))
                  for _ in range(links))
            for _ in range(chance.randrange(1, 5))
        )
        flows.append((demand, ways))
    return tuple(flows)


def some_net_and_splits(chance, is_let):
    """A net and three splits of it, all let, with links often full; or let just as it comes."""
    links = chance.randrange(5)
    flows = some_flows(chance, links)
    splits = tuple(some_split(chance, flows) for _ in range(3))
    bare = ((Z,) * links, flows)
    rooms = []
    for link in range(links):
        borne = [loads(bare, split)[link] for split in splits]
        most = max(borne) if is_let else chance.choice(borne)
        rooms.append(fraction(most + Fraction(chance.choice([0, 0, 0, 1, 2]), 3)))
    return (tuple(rooms), flows), splits


def some_flow_of_odd_ways(chance, links):
    """A flow some of whose ways are equal, take nothing, or are means of others, or all but that."""
    base = [[Fraction(chance.randrange(5), chance.randrange(1, 4)) for _ in range(links)] for _ in range(2)]
    part = Fraction(chance.randrange(1, 4), 4)
    mean = [part * a + (1 - part) * b for a, b in zip(*base)]
    scarcely = Fraction(chance.choice([-1, 1]), 10 ** 8 + 7)
    almost = [max(Fraction(0), a + (scarcely if k == 0 else 0)) for k, a in enumerate(mean)]
    ways = chance.sample([*base, base[0], mean, almost, [Fraction(0)] * links], chance.randrange(1, 5))
    return chance.choice([I, TWO, H, Z]), tuple(tuple(fraction(a) for a in way) for way in ways)


def odd_flows(many):
    """So many nets of one flow each, with shares of three kinds: by chance, few, and with long numbers."""
    chance = random.Random(many)
    found = []
    for _ in range(many):
        links = chance.choice([1, 2, 2, 3, 3, 4])
        demand, ways = some_flow_of_odd_ways(chance, links)
        net = (I,) * links, ((demand, ways),)
        alone = tuple(demand if way == 0 else Z for way in range(len(ways)))
        found.append((net, (some_shares(chance, demand, len(ways)), alone, long_shares(chance, demand, len(ways)))))
    return found


def cases(many, is_let=False):
    """So many nets with three splits each, the same ones at each call."""
    chance = random.Random(many)
    return [some_net_and_splits(chance, is_let) for _ in range(many)]


def halves(demand, many):
    """All shares of so many ways in halves of the demand."""
    parts = [part for part in product(range(3), repeat=many) if sum(part) == 2]
    return sorted({tuple(fraction(number(demand) * k / 2) for k in part) for part in parts})


def some_tight_flow(chance, links, is_fair):
    """A flow with up to three ways; if it is fair, each one takes as much of just one link."""
    unit = [tuple(I if k == link else Z for k in range(links)) for link in range(links)]
    size = chance.choice([I, I, H, TWO])
    fair = [tuple(size if part == I else Z for part in way) for way in unit]
    odd = unit + [tuple(chance.choice([Z, H, I]) for _ in range(links)) for _ in range(2)]
    many = chance.choice([2, 2, 3, 1])
    ways = [chance.choice(odd) for _ in range(many)]
    if is_fair:
        ways = chance.sample(fair, min(many, links))
    return chance.choice([I, I, I, TWO, H, Z]), tuple(ways)


def some_tight_net_and_splits(chance):
    """A net with room for just one of its splits, or scarcely more, and up to three that are let in it."""
    links, is_fair = chance.randrange(1, 4), chance.randrange(3) > 0
    flows = tuple(some_tight_flow(chance, links, is_fair) for _ in range(chance.choice([1, 2, 2, 3, 3])))
    grid = list(product(*[halves(demand, len(ways)) for demand, ways in flows]))
    rooms = [fraction(load) for load in loads(((Z,) * links, flows), chance.choice(grid))]
    if chance.randrange(4) == 0:
        link = chance.randrange(links)
        rooms[link] = fraction(number(rooms[link]) + Fraction(1, 2))
    net = tuple(rooms), flows
    let = [split for split in grid if fits(net, split)]
    return net, tuple(chance.sample(let, min(3, len(let))))


def tight_cases(many):
    """So many nets with one to three let splits each, often locked, the same ones at each call."""
    chance = random.Random(many)
    return [some_tight_net_and_splits(chance) for _ in range(many)]


def some_chain(many):
    """A net and a split at which so many full links come free, each one only behind the one ahead of it."""
    unit = [tuple(I if k == link else Z for k in range(many)) for link in range(many)]
    idle = (Z,) * many
    flows = tuple((I, (unit[k], unit[k - 1] if k > 0 else idle)) for k in range(many))
    return ((I,) * many, flows), ((I, Z),) * many


def long_shares(chance, demand, many):
    """Shares of so many ways that come to the demand, with integers of up to sixty digits."""
    if many == 1:
        return (demand,)
    den = chance.randrange(10 ** 54, 10 ** 55)
    cuts = sorted(chance.randrange(den + 1) for _ in range(many - 1))
    parts = [Fraction(b - a, den) for a, b in zip([0] + cuts, cuts + [den])]
    return tuple(fraction(number(demand) * part) for part in parts)


NO_LINKS = ((), ((I, ((), ())), (H, ((),))))
NO_FLOWS = ((I, Z, (3, 2)), ())
NOTHING = ((), ())
PAIR = ((I, (3, 2)), ((I, ((I, Z), (Z, TWO))), (H, ((I, I),))))
IDLE = ((Z, H), ((Z, ((I, I), (Z, Z))), ((2, 3), ((Z, H), (Z, H), (Z, Z)))))
NETS = (PAIR, IDLE, NO_LINKS, NO_FLOWS, NOTHING)


def let_grid(net):
    """All let splits of a net whose shares are halves of the demands."""
    grid = product(*[halves(demand, len(ways)) for demand, ways in net[1]])
    return [split for split in grid if fits(net, split)]


def some_costs(chance, net):
    """Costs above, below and at 0, or all alike, or with long numbers."""
    kind = chance.randrange(5)
    pick = {
        0: lambda: chance.choice([-1, 0, 0, 1]), 1: lambda: 0, 2: lambda: Fraction(-7, 3),
        3: lambda: Fraction(chance.randrange(-9, 10), chance.randrange(1, 5)),
        4: lambda: Fraction(chance.randrange(-10 ** 60, 10 ** 60), chance.randrange(1, 10 ** 60)),
    }[kind]
    return tuple(tuple(fraction(pick()) for _ in ways) for _, ways in net[1])


def some_uneven(chance):
    """A net that one of its splits fills, each way taking some of just one link, and up to three let splits."""
    links = chance.randrange(2, 4)
    flows = []
    for _ in range(chance.randrange(2, 4)):
        places = chance.sample(range(links), chance.randrange(2, links + 1))
        sizes = [chance.choice([I, I, H, (2, 3)]) for _ in places]
        ways = [tuple(size if k == link else Z for k in range(links)) for link, size in zip(places, sizes)]
        flows.append((chance.choice([I, I, TWO]), tuple(ways)))
    flows = tuple(flows)
    full = tuple(chance.choice(halves(demand, len(ways))) for demand, ways in flows)
    net = tuple(fraction(load) for load in loads(((Z,) * links, flows), full)), flows
    if chance.randrange(2) == 0:
        net = burdened(net, full)
    let = let_grid(net)
    return net, full, tuple(chance.sample(let, min(3, len(let))))


def burdened(net, split):
    """The net with a wide link more, of which only those ways take some that the split does not use."""
    flows = tuple(
        (demand, tuple(way + ((Z,) if share[0] else ((9, 1),)) for way, share in zip(ways, shares)))
        for (demand, ways), shares in zip(net[1], split)
    )
    return net[0] + ((999, 1),), flows
