"""What the wheels of a train turn while one of them is turned once, and the rings round which it jams."""

from cogtrain.errors import Jams, NoWheel
from cogtrain.ratios import greatest_divisor, lowest, times


def factor(kind, one, other):
    if kind == "pin":
        return (1, 1)
    if kind == "band":
        return lowest(one, other)
    # A mesh and a crossed band both turn the way round about.
    return lowest(-one, other)


def refuse_unknown(names, name):
    if name not in names:
        raise NoWheel("no wheel of the train has that name")


def wheel_meant(train, name):
    names = [wheel[0] for wheel in train.wheels()]
    if name is None:
        if len(names) == 0:
            raise NoWheel("the train has no wheels")
        return names[0]
    refuse_unknown(names, name)
    return name


def joins_from(joins, here):
    # Each as (number, kind, there): a join leads from either of its wheels to the other.
    leading = []
    for number, kind, one, other in joins:
        if one == here:
            leading.append((number, kind, other))
        if other == here:
            leading.append((number, kind, one))
    return leading


def tree_from(joins, start):
    # For each wheel that hangs on the start: the join (number, kind, before) by which it was come to first.
    # A wheel stands behind the one before it, so walking the tree in its order meets each wheel's way in time.
    tree = {start: None}
    waiting = [start]
    while len(waiting) > 0:
        here = waiting.pop(0)
        for number, kind, there in joins_from(joins, here):
            if there not in tree:
                tree[there] = (number, kind, here)
                waiting.append(there)
    return tree


def road_by(joins, one, other):
    tree = tree_from(joins, one)
    if other not in tree:
        return None
    steps = []
    there = other
    while there != one:
        entry = tree[there]
        steps.append((entry[0], there))
        there = entry[2]
    steps.reverse()
    return steps


def road(train, one, other):
    names = [wheel[0] for wheel in train.wheels()]
    refuse_unknown(names, one)
    refuse_unknown(names, other)
    return road_by(train.joins(), one, other)


def shares_along(train, tree):
    # What each wheel of the tree turns by its way in the tree; other ways may differ where the train jams.
    teeth_of = dict(train.wheels())
    shares = {}
    for name, entry in tree.items():
        if entry is None:
            shares[name] = (1, 1)
        else:
            before = entry[2]
            shares[name] = times(shares[before], factor(entry[1], teeth_of[before], teeth_of[name]))
    return shares


def jamming_join(train, shares):
    # Every ring's factor is made up of those of the rings that one join closes over a tree, there or back;
    # so if all of these are 1, all rings' are. A join of the tree itself never differs.
    teeth_of = dict(train.wheels())
    for join in train.joins():
        one = join[2]
        other = join[3]
        if one in shares:
            share = times(shares[one], factor(join[1], teeth_of[one], teeth_of[other]))
            if share != shares[other]:
                return join
    return None


def ring_closed_by(join, joins, tree):
    # The way back keeps to the tree's joins: only of these it is known that their factor differs from the join's.
    numbers = [entry[0] for entry in tree.values() if entry is not None]
    tree_joins = [standing for standing in joins if standing[0] in numbers]
    steps = road_by(tree_joins, join[2], join[3])
    steps.append((join[0], join[2]))
    return steps


def ring(train, name=None):
    tree = tree_from(train.joins(), wheel_meant(train, name))
    join = jamming_join(train, shares_along(train, tree))
    if join is None:
        return None
    return ring_closed_by(join, train.joins(), tree)


def free_shares(train, name):
    tree = tree_from(train.joins(), wheel_meant(train, name))
    shares = shares_along(train, tree)
    if jamming_join(train, shares) is not None:
        raise Jams("the train jams at this wheel")
    return shares


def turns(train, name=None):
    shares = free_shares(train, name)
    return [shares.get(wheel[0]) for wheel in train.wheels()]


def back_after(train, name=None):
    # In lowest terms a share times the count is whole just where its bottom divides the count.
    count = 1
    for share in free_shares(train, name).values():
        bottom = share[1]
        count = count // greatest_divisor(count, bottom) * bottom
    return count
