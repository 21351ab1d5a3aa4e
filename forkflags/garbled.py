"""Dials that a cut write leaves at any mark."""

from forkflags.errors import InvalidName, InvalidTable
from forkflags.naming import is_name
from forkflags.packing import states_of
from forkflags.tables import ReadingTable, check_cells


def garbled_fault(table, rights, start):
    """Return a shortest list of steps (writer, value, mark) that ends with a faulty write, or None."""
    if not all([len(table.cells_of(writer)) == 1 for writer in table.names]):
        raise InvalidTable("each writer must have exactly one cell")
    table.check_state(start)
    steps_to = {start: []}
    wave = [start]
    while wave:
        after = []
        for state in wave:
            for writer, value, line in _possible_writes(table, rights, state):
                faults = _fault_marks(table, state, value, line)
                if faults:
                    return steps_to[state] + [(writer, value, faults[0])]
                for mark, left in enumerate(line):
                    if left not in steps_to:
                        steps_to[left] = steps_to[state] + [(writer, value, mark)]
                        after.append(left)
        wave = after
    return None


def _possible_writes(table, rights, state):
    """List (writer, value, line) for each write that is possible; a line has a state for each mark of the dial."""
    told = table.told(state)
    found = []
    for writer in table.names:
        line = table.line_of(state, writer)
        found.extend([(writer, value, line) for value in rights[writer] if value != told])
    return found


def _fault_marks(table, state, value, line):
    """List marks that show a third name, or None if no mark shows the value; the list is empty without a fault."""
    shown = [table.told(other) for other in line]
    if value not in shown:
        return [None]
    told = table.told(state)
    return [mark for mark, name in enumerate(shown) if name not in (told, value)]


def parity_table(sizes, even, odd):
    """Return the table that tells one value if an even number of dials are at mark 1, otherwise the other."""
    cells = {name: [sizes[name]] for name in sizes}
    check_cells(cells, 2)
    for name in (even, odd):
        if not is_name(name):
            raise InvalidName(name)
    states = states_of([sizes[name] for name in sorted(sizes)])
    return ReadingTable(cells, [odd if state.count(1) % 2 else even for state in states])
