"""Reading tables with turns that are given one by one."""

from forkflags.errors import InvalidTable
from forkflags.packing import is_index, pack
from forkflags.safety import safe_states, safe_ways
from forkflags.tables import ReadingTable, take_cells


class RuledTable(ReadingTable):
    """A reading table that has, for states and writers, the turns of an update."""

    def __init__(self, sizes, readings, rules):
        super().__init__(sizes, readings)
        for key in rules:
            if not self._is_key(key) or not all([self._is_turn(turn, key[1]) for turn in rules[key]]):
                raise InvalidTable("a rule is for no state and writer, or has a turn that the writer cannot make")
        self._rules = {key: list(rules[key]) for key in rules}

    def _is_key(self, key):
        if not isinstance(key, tuple) or len(key) != 2:
            return False
        return is_index(key[0], len(self.readings)) and key[1] in self.names

    def _is_turn(self, turn, writer):
        index, mark = turn
        if not is_index(index, len(self.cells)) or self.cells[index][0] != writer:
            return False
        return is_index(mark, self.sizes[index])

    def turns(self, state, writer):
        """List the turns of the writer's update that begins in this state."""
        told = self.told(state)
        self.check_writer(writer)
        if told == writer:
            return []
        return list(self._rules.get((pack(state, self.sizes), writer), []))


def safe_rules(table):
    """Return the table with a shortest safe way for each safe state and each writer not told in it."""
    told = {state: table.told(state) for state in safe_states(table)}
    rules = {}
    for writer in table.names:
        ways = safe_ways(table, told, writer)
        for state in told:
            if told[state] != writer:
                rules[(pack(state, table.sizes), writer)] = ways[state]
    ruled = RuledTable({name: [] for name in table.names}, table.names[:1], {})
    take_cells(ruled, table, table.readings)
    ruled._rules = rules
    return ruled
