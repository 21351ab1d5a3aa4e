"""The sums that tell whether a town has a plan."""

from forkflags.errors import InvalidSizes, TooMany
from forkflags.packing import is_size
from forkflags.shares import Share, add_shares
from forkflags.towns import MOST_NEIGHBOURS, hall_at, house_of, houses_of, town_names, ways_to
from forkflags.trees import height_of, ways_of

# A hall for each fork on a way, and a house at its end: this is how deep a town may be nested.
MOST_HEIGHT = 5


def check_sizes(town, sizes):
    """Raise an error if the value is not a town, or for its least writer without a right size."""
    for name in town_names(town):
        if not is_size(sizes.get(name)):
            raise InvalidSizes(name)


def house_sum(town, sizes, house):
    """Return the number of ways to the house times the sum of 1/size over its writers."""
    check_sizes(town, sizes)
    ways = ways_to(town, house)
    return _sum_of(ways, [sizes[name] for name in hall_at(town, house)])


def _sum_of(ways, sizes):
    shares = [Share(ways, size) for size in sizes]
    return add_shares(*shares)


def town_fault(town, sizes):
    """Return the first house whose sum is more than one, with the sum, or None."""
    check_sizes(town, sizes)
    for house in houses_of(town):
        total = house_sum(town, sizes, house)
        if not total.at_most(Share(1)):
            return (house, total)
    return None


def least_dial(town, sizes, writer):
    """Return the least size of this writer's dial beside the others of its house, or None."""
    check_sizes(town, sizes)
    house = house_of(town, writer)
    ways = ways_to(town, house)
    others = _sum_of(ways, [sizes[name] for name in hall_at(town, house) if name != writer])
    left = others.bottom - others.top
    if left <= 0:
        return None
    # ways / size is to be at most left / bottom, so the quotient is rounded up.
    return (ways * others.bottom + left - 1) // left


def town_of_tree(tree):
    """Return the town of a tree and its sizes: each leaf is a house, each fork a hall."""
    ways = ways_of(tree)
    if height_of(tree) > MOST_HEIGHT:
        raise TooMany(MOST_HEIGHT)
    if len(ways) > MOST_NEIGHBOURS:
        raise TooMany(MOST_NEIGHBOURS)
    return (_housed(tree), {name: 1 << len(ways[name]) for name in sorted(ways)})


def _housed(tree):
    if isinstance(tree, str):
        return (tree,)
    left, right = tree
    return (_housed(left), _housed(right))
