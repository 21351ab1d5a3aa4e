"""What a reader of a fork plan can say if it does not know all marks."""

from forkflags.errors import InvalidState
from forkflags.packing import is_index
from forkflags.trees import forks_of, way_of, ways_of


def possible_told(plan, marks):
    """Return, for each writer that can be told, the number of completions in which it is told."""
    _check_marks(plan, marks)
    boards = _boards(plan, marks)
    ways = ways_of(plan.tree)
    counts = {name: _completions(boards, ways[name], marks.count(None)) for name in plan.names}
    return {name: counts[name] for name in plan.names if counts[name] > 0}


def _check_marks(plan, marks):
    if not isinstance(marks, (list, tuple)) or len(marks) != len(plan.sizes):
        raise InvalidState("there must be one mark for each flag")
    if not all([mark is None or is_index(mark, 2) for mark in marks]):
        raise InvalidState("a mark must be 0, 1 or None")


def _boards(plan, marks):
    """Return a dict from each fork to its board, or to None if a mark of its flags is not known."""
    boards = {}
    for fork in forks_of(plan.tree):
        seen = [marks[index] for index in plan.flags_at(fork)]
        boards[fork] = None if None in seen else sum(seen) % 2
    return boards


def _completions(boards, way, unknown):
    """Return the number of completions in which all boards lead along this way."""
    count = 1 << unknown
    for level, digit in enumerate(way):
        board = boards[way[:level]]
        if board is None:
            # One half of the completions gives this fork board 0, the other half board 1.
            count = count // 2
        elif board != int(digit):
            return 0
    return count


def sure_told(plan, marks):
    """Return the writer that is told in all completions, or None."""
    names = list(possible_told(plan, marks))
    return names[0] if len(names) == 1 else None


def needed_cells(plan, state):
    """List the indexes of the flags of all forks on the told writer's way."""
    way = way_of(plan.tree, plan.told(state))
    needed = []
    for level in range(len(way)):
        needed.extend(plan.flags_at(way[:level]))
    return sorted(needed)
