"""Town plans whose dials go only forward."""

from forkflags.errors import InvalidSizes
from forkflags.packing import is_index
from forkflags.townplan import TownPlan

MOST_RING = 240


class RatchetPlan(TownPlan):
    """A town plan that reads each mark modulo the writer's size."""

    def __init__(self, town, sizes, rings):
        super().__init__(town, sizes)
        for name in self.names:
            if not _is_ring(rings.get(name), sizes[name]):
                raise InvalidSizes(name)
        self.sizes = [rings[name] for name in self.names]
        self._read_sizes = [sizes[name] for name in self.names]

    def _reduced(self, state):
        """Return the state that is read, and raise an error if this is not a state of the plan."""
        self.check_state(state)
        return tuple([mark % size for mark, size in zip(state, self._read_sizes)])

    def told(self, state):
        """Return the writer that the town plan tells."""
        return super().told(self._reduced(state))

    def board(self, state, hall):
        """Return the index of the entry that the hall shows."""
        return super().board(self._reduced(state), hall)

    def sight(self, state, writer):
        """Return the reduced marks of the writer's house and the boards of the halls above it."""
        return super().sight(self._reduced(state), writer)

    def forward_steps(self, state, writer):
        """Return the number of marks that the dial goes forward in the writer's update."""
        reduced = self._reduced(state)
        turns = super().turns(reduced, writer)
        return sum([(mark - reduced[index]) % self._read_sizes[index] for index, mark in turns])

    def turns(self, state, writer):
        """List the turns of the writer's update that begins in this state, one or none."""
        steps = self.forward_steps(state, writer)
        if steps == 0:
            return []
        dial = self.names.index(writer)
        return [(dial, (state[dial] + steps) % self.sizes[dial])]


def _is_ring(ring, size):
    return is_index(ring, MOST_RING + 1) and ring > 0 and ring % size == 0
