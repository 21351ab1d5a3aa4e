"""The plan of a tree: each writer has one flag for each fork on its way."""

from forkflags.budgets import fit_tree
from forkflags.errors import InvalidState, UnknownFork
from forkflags.notation import format_tree
from forkflags.packing import is_index
from forkflags.plans import Plan
from forkflags.trees import forks_of, ways_of


class ForkPlan(Plan):
    """The plan in which the boards of the forks lead from the top to the told writer."""

    def __init__(self, tree):
        ways = ways_of(tree)
        names = sorted(ways)
        cells = [(name, level) for name in names for level in range(len(ways[name]))]
        super().__init__(names, cells, [2] * len(cells))
        self.tree = tree
        self._text = format_tree(tree)
        self._ways = ways
        self._leaves = {ways[name]: name for name in names}
        self._flags = {fork: [] for fork in forks_of(tree)}
        for index in range(len(cells)):
            self._flags[self.fork_of(index)].append(index)

    @classmethod
    def fitted(cls, budgets):
        """Return the plan of the tree that fits the budgets."""
        return cls(fit_tree(budgets))

    def fork_of(self, index):
        """Return the fork of the flag with this index."""
        if not is_index(index, len(self.cells)):
            raise InvalidState("not the index of a flag")
        writer, level = self.cells[index]
        return self._ways[writer][:level]

    def flags_at(self, fork):
        """List the indexes of the flags of a fork."""
        self._check_fork(fork)
        return list(self._flags[fork])

    def _check_fork(self, fork):
        # The list also answers for values that cannot be keys.
        if fork not in list(self._flags):
            raise UnknownFork(fork)

    def board(self, state, fork):
        """Return 0 if an even number of flags of the fork are 1, otherwise 1."""
        self.check_state(state)
        self._check_fork(fork)
        return self._parity(state, fork)

    def _parity(self, state, fork):
        return sum([state[index] for index in self._flags[fork]]) % 2

    def told(self, state):
        """Return the leaf that is found by following the boards from the top."""
        self.check_state(state)
        return self._leaf_from(state, "")

    def told_below(self, state, fork):
        """Return the leaf that is found by following the boards from this fork."""
        self.check_state(state)
        self._check_fork(fork)
        return self._leaf_from(state, fork)

    def _leaf_from(self, state, fork):
        way = fork
        while way in self._flags:
            way = way + str(self._parity(state, way))
        return self._leaves[way]

    def wrong_forks(self, state, writer):
        """List the forks on the writer's way whose boards do not lead to it, the deepest first."""
        self.check_state(state)
        self.check_writer(writer)
        way = self._ways[writer]
        return [
            way[:level] for level in reversed(range(len(way)))
            if self._parity(state, way[:level]) != int(way[level])
        ]

    def turns(self, state, writer):
        """List the turns of the writer's update that begins in this state."""
        forks = self.wrong_forks(state, writer)
        own = self.cells_of(writer)
        indexes = [own[len(fork)] for fork in forks]
        return [(index, 1 - state[index]) for index in indexes]

    def told_count(self, writer):
        """Return the number of states in which this writer is told."""
        self.check_writer(writer)
        return 1 << (len(self.cells) - len(self._ways[writer]))

    def __str__(self):
        return f"{self._text}"
