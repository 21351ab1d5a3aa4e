"""The tree on which a given row of updates costs the fewest turns."""

from forkflags.errors import InvalidName, TooMany
from forkflags.naming import is_name

MOST_PLACED = 7


def cheapest_tree(row):
    """Return the least cost of the row and a tree of its writers that has it."""
    for name in row:
        if not is_name(name):
            raise InvalidName(name)
    # The writers in the order in which the row names them first.
    names = list({name: True for name in row})
    if len(names) > MOST_PLACED:
        raise TooMany(MOST_PLACED)
    # A group of writers is written as a number with one bit for each of them.
    bits = {name: 1 << place for place, name in enumerate(names)}
    marked = [bits[name] for name in row]
    best = {bits[name]: (0, name) for name in names}
    for group in range(1, 1 << len(names)):
        if group not in best:
            best[group] = _best_fork(group, marked, best)
    return best[(1 << len(names)) - 1]


def _best_fork(group, marked, best):
    """Return the least cost and a tree of a group of writers, from those of all smaller groups."""
    changes = _changes_in(group, marked)
    # The lowest bit is that of the writer who is first in the row, and goes to the left.
    first = group & -group
    found = None
    for left in range(first, group):
        if left & first and left & group == left:
            right = group - left
            cost = best[left][0] + best[right][0] + _cost_between(left, right, changes)
            if found is None or cost < found[0]:
                found = (cost, (best[left][1], best[right][1]))
    return found


def _changes_in(group, marked):
    """Return, for each two writers of the group, how often one of them follows the other."""
    kept = [bit for bit in marked if bit & group]
    changes = {}
    for before, after in zip(kept, kept[1:]):
        if before != after:
            changes[before | after] = changes.get(before | after, 0) + 1
    return changes


def _cost_between(left, right, changes):
    return sum([changes[both] for both in changes if both & left and both & right])
