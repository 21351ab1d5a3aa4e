"""Flag budgets: how many flags each writer has, and the trees that fit them."""

from forkflags.errors import InvalidBudget, SumTooGreat, TooMany, UnknownWriter
from forkflags.naming import MOST_WRITERS, check_few_names, check_keys
from forkflags.packing import is_index
from forkflags.shares import Share, add_shares
from forkflags.trees import ways_of

MOST_FLAGS = 30


def check_budgets(budgets):
    """Raise an error if these are not the budgets of 1 to 12 writers."""
    if len(budgets) > MOST_WRITERS:
        raise TooMany(MOST_WRITERS)
    check_keys(budgets)
    for name in sorted(budgets):
        if not is_index(budgets[name], MOST_FLAGS + 1):
            raise InvalidBudget(name)


def flag_sum(budgets):
    """Return the sum of 1/2^k over all writers."""
    check_budgets(budgets)
    return _sum_of(list(budgets.values()))


def _sum_of(flags):
    """Return the sum of 1/2^k over a list of numbers of flags."""
    shares = [Share.half_power(k) for k in flags]
    return add_shares(*shares)


def _checked_sum(budgets):
    """Return the flag sum, and raise an error if it is more than one."""
    total = flag_sum(budgets)
    if not total.at_most(Share(1)):
        raise SumTooGreat(total)
    return total


def fits(tree, budgets):
    """Tell whether the tree has exactly these writers, none deeper than its budget."""
    ways = ways_of(tree)
    check_budgets(budgets)
    if sorted(ways) != sorted(budgets):
        return False
    return all([len(ways[name]) <= budgets[name] for name in ways])


def fit_tree(budgets):
    """Return a tree that fits the budgets."""
    _checked_sum(budgets)
    coded = []
    free = 0
    before = 0
    for flags, name in sorted([(budgets[name], name) for name in budgets]):
        free = free << (flags - before)
        coded.append((_digits(free, flags), name))
        free = free + 1
        before = flags
    return _joined(coded)


def _digits(number, count):
    """Write a number with this many binary digits."""
    return "".join([str((number >> place) & 1) for place in reversed(range(count))])


def _joined(coded):
    """Build the tree of pairs (way, name), without the forks that have one child only."""
    if len(coded) == 1:
        return coded[0][1]
    left = [(way[1:], name) for way, name in coded if way[0] == "0"]
    right = [(way[1:], name) for way, name in coded if way[0] == "1"]
    # The numbers have no gaps from 0 on, so it is always the right child that is missing.
    if not right:
        return _joined(left)
    return (_joined(left), _joined(right))


def spare_flags(budgets):
    """List the writers that could alone do with one flag less."""
    total = _checked_sum(budgets)
    # One flag less makes 1/2^k twice as much, so the sum grows by 1/2^k.
    return [
        name for name in sorted(budgets)
        if budgets[name] > 0 and (total + Share.half_power(budgets[name])).at_most(Share(1))
    ]


def least_budget(budgets, writer):
    """Return the least budget of this writer beside the others, or None if they leave nothing."""
    check_budgets(budgets)
    if writer not in list(budgets):
        raise UnknownWriter(writer)
    others = _sum_of([budgets[name] for name in budgets if name != writer])
    if Share(1).at_most(others):
        return None
    flags = 0
    while not (others + Share.half_power(flags)).at_most(Share(1)):
        flags = flags + 1
    return flags


def least_raise(budgets):
    """Return budgets with a flag sum of at most one that add as few flags as possible."""
    check_budgets(budgets)
    raised = {name: budgets[name] for name in sorted(budgets)}
    while not _sum_of(list(raised.values())).at_most(Share(1)):
        flags, name = min([(raised[name], name) for name in raised])
        raised[name] = flags + 1
    return raised


def least_total(count):
    """Return the least sum of the depths of all leaves in a tree with this many leaves."""
    floor = _floor_power(count)
    return count * floor + 2 * (count - (1 << floor))


def _floor_power(count):
    """Return the greatest f with 2^f at most count."""
    return count.bit_length() - 1


def even_tree(names):
    """Return a tree of these names whose depths have the least sum."""
    check_few_names(names)
    floor = _floor_power(len(names))
    shallow = (2 << floor) - len(names)
    budgets = {}
    for at, name in enumerate(sorted(names)):
        budgets[name] = floor if at < shallow else floor + 1
    return fit_tree(budgets)
