"""Reading tables: plans that say in full which name is told in each state."""

from forkflags.errors import InvalidName, InvalidSizes, InvalidTable, TooMany
from forkflags.naming import check_keys, is_name
from forkflags.packing import is_size, pack, state_count, states_of
from forkflags.plans import Plan
from forkflags.shares import Share, add_shares

MOST_STATES = 256


class ReadingTable(Plan):
    """A plan that has a list of the told names of its states, and no turns."""

    def __init__(self, sizes, readings):
        check_cells(sizes, 1)
        names = sorted(sizes)
        cells = [(name, level) for name in names for level in range(len(sizes[name]))]
        super().__init__(names, cells, _joined_sizes(sizes))
        if len(readings) != state_count(self.sizes):
            raise InvalidTable("there must be one reading for each state")
        for name in readings:
            if not is_name(name):
                raise InvalidName(name)
        self.readings = list(readings)

    def told(self, state):
        """Return the name that the table tells."""
        return self.readings[pack(state, self.sizes)]

    def line_of(self, state, writer):
        """List the states that differ from this state in cells of this writer only, and the state itself."""
        self.check_state(state)
        own = self.cells_of(writer)
        sizes = [self.sizes[index] for index in own]
        return [self.turned(state, list(zip(own, marks))) for marks in states_of(sizes)]


def check_cells(sizes, least):
    """Raise an error for a key that is no name, a cell with too few or too many marks, or too many states."""
    check_keys(sizes)
    for name in sorted(sizes):
        if not all([is_size(size) and size >= least for size in sizes[name]]):
            raise InvalidSizes(name)
    check_few_states(_joined_sizes(sizes))


def check_few_states(sizes):
    """Raise an error if cells of these sizes have more states than a table may have."""
    if state_count(sizes) > MOST_STATES:
        raise TooMany(MOST_STATES)


def _joined_sizes(sizes):
    """List the sizes of all cells, in the order of the writers."""
    return [size for name in sorted(sizes) for size in sizes[name]]


def table_of(plan):
    """Return the reading table of a plan."""
    check_few_states(plan.sizes)
    table = ReadingTable({name: [] for name in plan.names}, plan.names[:1])
    take_cells(table, plan, [plan.told(state) for state in states_of(plan.sizes)])
    return table


def take_cells(table, plan, readings):
    """Give a table of the same writers the cells of the plan, and its readings."""
    # The constructor has bounds that the cells of a plan need not keep.
    table.cells = list(plan.cells)
    table.sizes = list(plan.sizes)
    table.readings = list(readings)


def told_counts(table, states):
    """Return, for each writer, the number of entries of the list in which it is told."""
    told = [table.told(state) for state in states]
    return {name: told.count(name) for name in table.names}


def line_sum(sizes):
    """Return the sum, over the writers, of one divided by the product of the sizes of their cells."""
    shares = [Share(1, state_count(sizes[name])) for name in sizes]
    return add_shares(*shares)
