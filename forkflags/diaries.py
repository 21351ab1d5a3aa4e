"""Diaries: each writer keeps its own updates, and the order of all updates is found from them."""

from forkflags.errors import NoStory
from forkflags.packing import is_index
from forkflags.trees import names_beneath, way_of


def diaries_of(plan, state, row):
    """Return, for each writer, the turns of its whole updates while the writers of the row make theirs."""
    plan.check_state(state)
    diaries = {name: [] for name in plan.names}
    now = state
    for writer in row:
        turns = plan.turns(now, writer)
        if turns:
            diaries[writer].append([(index, now[index], mark) for index, mark in turns])
        now = plan.turned(now, turns)
    return diaries


def told_story(plan, last, diaries):
    """Return the first state and the row of the writers of all entries."""
    plan.check_state(last)
    waiting = {writer: list(diaries[writer]) for writer in diaries}
    left = sum([len(waiting[writer]) for writer in waiting])
    now = last
    row = []
    while left > 0:
        writer = plan.told(now)
        # Whoever made the last update is told after it, so no other writer is asked.
        entries = waiting.get(writer, [])
        before = _state_before(plan, now, writer, entries.pop()) if entries else None
        if before is None:
            raise NoStory(left)
        now = before
        row.append(writer)
        left = left - 1
    return (now, row[::-1])


def _state_before(plan, state, writer, entry):
    """Return the state in which the update of this entry began, or None if it cannot have led to this state."""
    indexes = [triple[0] for triple in entry]
    if len(set(indexes)) < len(indexes) or not all([_can_be_last(plan, state, triple) for triple in entry]):
        return None
    before = plan.turned(state, [(index, old) for index, old, _ in entry])
    # An entry without triples leaves the writer told, too.
    if plan.told(before) == writer or plan.turns(before, writer) != [(index, new) for index, _, new in entry]:
        return None
    return before


def _can_be_last(plan, state, triple):
    """Tell whether a turn from the old mark to the new one can have led to the mark in this state."""
    index, old, new = triple
    if not is_index(index, len(plan.sizes)) or not is_index(old, plan.sizes[index]):
        return False
    return is_index(new, plan.sizes[index]) and state[index] == new


def heard_before(plan, writer, entry):
    """List the writers that can have been told before the update of this entry, in a fork plan."""
    way = way_of(plan.tree, writer)
    fork = plan.fork_of(entry[-1][0])
    return names_beneath(plan.tree, fork, 1 - int(way[len(fork)]))
