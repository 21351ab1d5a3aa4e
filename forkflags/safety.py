"""The greatest set of states of a reading table in which every writer always has a safe way."""

from forkflags.errors import InvalidState
from forkflags.packing import states_of


def safe_states(table):
    """List the states of the greatest safe set."""
    removed = removal_rounds(table)
    return [state for state in states_of(table.sizes) if state not in removed]


def safe_way(table, states, state, writer):
    """Return a safe way of the writer with the fewest turns in these states, or None."""
    table.check_state(state)
    if state not in states:
        raise InvalidState("the state is not in the list")
    table.check_writer(writer)
    return safe_ways(table, _told_in(table, states), writer).get(state)


def removal_rounds(table):
    """Return, for each state that is not safe, the number of the round that removes it."""
    told = _told_in(table, states_of(table.sizes))
    rounds = {}
    number = 1
    removed = _without_way(table, told)
    while removed:
        for state in removed:
            rounds[state] = number
        told = {state: told[state] for state in told if state not in rounds}
        removed = _without_way(table, told)
        number = number + 1
    return {state: rounds[state] for state in sorted(rounds)}


def _told_in(table, states):
    return {state: table.told(state) for state in states}


def _without_way(table, told):
    """List the states from which some writer has no safe way in the set of all of them."""
    ways = [safe_ways(table, told, writer) for writer in table.names]
    return [state for state in told if not all([state in found for found in ways])]


def safe_ways(table, told, writer):
    """Return, for each state from which the writer has a safe way, one with the fewest turns.

    told is a dict from each state of the set to its told name.
    """
    own = table.cells_of(writer)
    ways = {state: [] for state in told if told[state] == writer}
    wave = list(ways)
    # The ways are found from their ends, the shorter ones first.
    while wave:
        before = []
        for state in wave:
            for turn, other in _neighbours(table, state, own):
                if other in told and other not in ways and told[state] in (writer, told[other]):
                    ways[other] = [turn] + ways[state]
                    before.append(other)
        wave = before
    return ways


def _neighbours(table, state, own):
    """List the states that one turn of one of these cells leads to the state, each behind its turn."""
    return [
        ((index, state[index]), state[:index] + (mark,) + state[index + 1:])
        for index in own for mark in range(table.sizes[index]) if mark != state[index]
    ]
