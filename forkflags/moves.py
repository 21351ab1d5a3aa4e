"""Writers come and go: a fork plan changes together with its state, and the told writer stays."""

from forkflags.errors import DuplicateWriter, InvalidName, StillTold, TooMany
from forkflags.forkplan import ForkPlan
from forkflags.naming import MOST_WRITERS, is_name
from forkflags.shaping import graft, replaced
from forkflags.trees import ways_of


def admitted(plan, state, writer, beside):
    """Return the plan with one more writer, and its state."""
    plan.check_state(state)
    return _moved(graft(plan.tree, writer, beside), _marked_cells(plan, state))


def dismissed(plan, state, writer):
    """Return the plan without a writer that is not told, and its state."""
    plan.check_state(state)
    plan.check_writer(writer)
    if plan.told(state) == writer:
        raise StillTold(writer)
    ways = ways_of(plan.tree)
    gone = ways[writer][:-1]
    marked = []
    for (name, level), mark in _marked_cells(plan, state):
        if not ways[name].startswith(gone) or level < len(gone):
            marked.append(((name, level), mark))
        elif level > len(gone):
            marked.append(((name, level - 1), mark))
    own = [state[index] for index in plan.cells_of(writer)]
    return _moved(_tree_without(plan.tree, ways[writer], own), marked)


def _tree_without(tree, way, marks):
    """Return the tree without the leaf at this way, with the children exchanged where its writer's mark is 1."""
    left, right = tree
    if len(way) == 1:
        return right if way == "0" else left
    if way[0] == "0":
        left = _tree_without(left, way[1:], marks[1:])
    else:
        right = _tree_without(right, way[1:], marks[1:])
    # The board loses this mark, so it now leads to the other side.
    return (right, left) if marks[0] == 1 else (left, right)


def joined_plans(first, first_state, second, second_state):
    """Return the plan whose top fork has two plans beneath it, and its state."""
    first.check_state(first_state)
    second.check_state(second_state)
    for name in first.names:
        if name in second:
            raise DuplicateWriter(name)
    if len(first.names) + len(second.names) > MOST_WRITERS:
        raise TooMany(MOST_WRITERS)
    kept = _marked_cells(first, first_state) + _marked_cells(second, second_state)
    return _moved((first.tree, second.tree), [((name, level + 1), mark) for (name, level), mark in kept])


def renamed(plan, state, old, new):
    """Return the plan with another name for one writer, and its state."""
    plan.check_state(state)
    plan.check_writer(old)
    if not is_name(new):
        raise InvalidName(new)
    if new != old and new in plan:
        raise DuplicateWriter(new)
    marked = [((new if name == old else name, level), mark) for (name, level), mark in _marked_cells(plan, state)]
    return _moved(replaced(plan.tree, old, new), marked)


def _marked_cells(plan, state):
    """List the pairs (cell, mark) of a state."""
    return list(zip(plan.cells, state))


def _moved(tree, marked):
    """Return the plan of the tree, and the state in which these cells have these marks and all others 0."""
    plan = ForkPlan(tree)
    marks = {cell: mark for cell, mark in marked}
    return (plan, tuple([marks.get(cell, 0) for cell in plan.cells]))
