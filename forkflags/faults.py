"""Updates that tell a third writer on the way, or another writer than their own at the end."""

from forkflags.errors import InvalidEvent, UnknownWriter
from forkflags.history import run
from forkflags.tables import check_few_states


def is_fault(plan, start, events):
    """Tell whether the events can be made up to the last one, and this one is a faulty update up to its fault."""
    plan.check_state(start)
    if not events:
        return False
    writer, number = events[-1]
    try:
        state = run(plan, start, events[:-1])
        states = _states_of_update(plan, state, writer)
    except (UnknownWriter, InvalidEvent):
        return False
    fault = _fault_number([plan.told(now) for now in states], writer)
    return fault is not None and number == fault


def first_fault(plan, start):
    """Return a shortest list of events that ends with a fault, or None if there is none."""
    found = _explored(plan, start)
    told = {entry[0]: plan.told(entry[0]) for entry in found}
    for _, events, updates in found:
        for writer, states in updates:
            fault = _fault_number([told[now] for now in states], writer)
            if fault is not None:
                return events + [(writer, fault)]
    return None


def reachable(plan, start):
    """List the states that events can lead to."""
    return sorted([entry[0] for entry in _explored(plan, start)])


def _states_of_update(plan, state, writer):
    """List the states of an update, from the one in which it begins to the one after its last turn."""
    states = [state]
    for turn in plan.turns(state, writer):
        states.append(plan.turned(states[-1], [turn]))
    return states


def _fault_number(told, writer):
    """Return the fault number of an update with these told names, from before its first turn on, or None."""
    for done, name in enumerate(told):
        if name not in (told[0], writer):
            return done
    return None if told[-1] == writer else len(told) - 1


def _explored(plan, start):
    """List (state, events, updates) for each state that can be reached, those with fewer events first.

    events is a shortest list of events that leads to the state, and updates has (writer, states) for each
    writer, with the states of its update that begins there.
    """
    plan.check_state(start)
    check_few_states(plan.sizes)
    found = []
    events_to = {start: []}
    wave = [start]
    while wave:
        after = []
        for state in wave:
            updates = [(writer, _states_of_update(plan, state, writer)) for writer in plan.names]
            found.append((state, events_to[state], updates))
            for writer, states in updates:
                for done, left in enumerate(states):
                    if left not in events_to:
                        events_to[left] = events_to[state] + [(writer, done)]
                        after.append(left)
        wave = after
    return found
