"""What rows of whole updates cost, counted in turns."""

from forkflags.errors import TooMany, UnknownWriter
from forkflags.routes import in_turn
from forkflags.shares import Share
from forkflags.trees import forks_of, parts_of, ways_of

MOST_ENTRIES = 64


def side_changes(tree, row):
    """Return, for each fork, how often the row changes from one of its sides to the other."""
    sides = _sides_of(tree, row)
    return {fork: _changes_in(sides[fork]) for fork in sides}


def row_turns(tree, row):
    """Return the number of all turns of the row, begun in the start state."""
    sides = _sides_of(tree, row)
    # All boards lead to the left at the start, so the first side counts as a change from there.
    return sum([_changes_in(["0"] + sides[fork]) for fork in sides])


def _sides_of(tree, row):
    """Return, for each fork, the sides on which the writers of the row are that are beneath it."""
    ways = ways_of(tree)
    known = list(ways)
    for writer in row:
        if writer not in known:
            raise UnknownWriter(writer)
    sides = {fork: [] for fork in forks_of(tree)}
    for writer in row:
        for level, side in enumerate(ways[writer]):
            sides[ways[writer][:level]].append(side)
    return sides


def _changes_in(sides):
    return len([after for before, after in zip(sides, sides[1:]) if before != after])


def most_turns(tree, count):
    """Return the greatest number of turns of all rows with this many entries."""
    return _most_lists(tree, count)[""][count]


def _most_lists(tree, count):
    """Return, for each subtree by its way, the greatest numbers of turns of rows with 0, 1, .. entries."""
    parts = parts_of(tree)
    if count > MOST_ENTRIES:
        raise TooMany(MOST_ENTRIES)
    most = {}
    # The parts of a subtree come behind it, so they are asked first.
    for way, part in parts[::-1]:
        most[way] = [0] * (count + 1)
        if not isinstance(part, str):
            left = most[way + "0"]
            right = most[way + "1"]
            most[way] = [_best_share(left, right, many)[0] for many in range(count + 1)]
    return most


def _best_share(left, right, many):
    """Return the greatest number of turns of a row with this many entries, and how many are on the right."""
    return max([(left[many - i] + right[i] + _own_turns(many - i, i), i) for i in range(many + 1)])


def _own_turns(left, right):
    """Return the greatest number of turns at a fork whose sides have this many entries."""
    return 2 * right if right <= left else 2 * left + 1


def dearest_row(tree, count):
    """Return a row with this many entries that has most_turns(tree, count) turns."""
    return _dearest(tree, "", _most_lists(tree, count), count)


def _dearest(part, way, most, count):
    """Return a dearest row of the subtree at this way."""
    if isinstance(part, str):
        return [part] * count
    _, right = _best_share(most[way + "0"], most[way + "1"], count)
    first = _dearest(part[1], way + "1", most, right)
    second = _dearest(part[0], way + "0", most, count - right)
    return in_turn(first, second)


def dearest_rate(tree):
    """Return the number of turns for each entry that long rows can have."""
    rates = {}
    for way, part in parts_of(tree)[::-1]:
        rates[way] = Share(0)
        if not isinstance(part, str):
            left = rates[way + "0"]
            right = rates[way + "1"]
            both = (left + right) * Share(1, 2) + Share(1)
            rates[way] = _greater(both, _greater(left, right))
    return rates[""]


def _greater(first, second):
    return second if first.at_most(second) else first
