"""Which states of a fork plan updates, and cut updates alone, can lead to."""

from forkflags.partial import needed_cells
from forkflags.trees import forks_of, names_beneath


def route(plan, start, goal):
    """Return a list of events that lead from one state to the other."""
    plan.check_state(start)
    plan.check_state(goal)
    events = []
    now = start
    # Events for a fork change flags beneath it, so the forks are put right from the top.
    for fork in forks_of(plan.tree):
        for writer in _turners(plan, now, goal, fork):
            # The update is cut right after its turn at this fork, so nothing above it is turned.
            done = plan.wrong_forks(now, writer).index(fork) + 1
            events.append((writer, done))
            now = plan.updated(now, writer, done)
    return events


def _turners(plan, now, goal, fork):
    """List writers whose turns at this fork, one after another, give all its flags the right marks."""
    board = plan.board(now, fork)
    # The board always leads away from the side that turns next.
    first = _wrong_beneath(plan, now, goal, fork, 1 - board)
    second = _wrong_beneath(plan, now, goal, fork, board)
    # Its writers turn as often as those of the other side, or once more. Two more turns of a flag cancel.
    while len(first) < len(second):
        first = first + names_beneath(plan.tree, fork, 1 - board)[:1] * 2
    while len(second) < len(first) - 1:
        second = second + names_beneath(plan.tree, fork, board)[:1] * 2
    return in_turn(first, second)


def _wrong_beneath(plan, now, goal, fork, side):
    """List the writers beneath this side of the fork whose flags of the fork differ in the two states."""
    wrong = [plan.cells[index][0] for index in plan.flags_at(fork) if now[index] != goal[index]]
    return [name for name in names_beneath(plan.tree, fork, side) if name in wrong]


def in_turn(first, second):
    """List the entries of two lists in turn, and then what is left of the longer one."""
    row = []
    for at in range(max(len(first), len(second))):
        row.extend(first[at:at + 1])
        row.extend(second[at:at + 1])
    return row


def quiet_route(plan, start, goal):
    """Return a list of cut events that lead from one state to the other, or None if there is none."""
    plan.check_state(start)
    plan.check_state(goal)
    if not all([start[index] == goal[index] for index in needed_cells(plan, start)]):
        return None
    # Where no flag on the told writer's way is turned, every event of a route is cut.
    return route(plan, start, goal)


def quiet_count(plan, state):
    """Return the number of states that cut events alone can lead to."""
    return 1 << (len(plan.sizes) - len(needed_cells(plan, state)))
