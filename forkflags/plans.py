"""What all plans have in common."""

from forkflags.errors import InvalidState, TooManyTurns, UnknownWriter
from forkflags.naming import is_name
from forkflags.packing import is_index, is_state


class Plan:
    """The base class of all plans: writers, their cells, and the sizes of the cells."""

    def __init__(self, names, cells, sizes):
        self.names = list(names)
        self.cells = list(cells)
        self.sizes = list(sizes)

    def start(self):
        """Return the state in which every mark is 0."""
        return (0,) * len(self.sizes)

    def check_state(self, state):
        """Raise an error if the value is not a state of the plan."""
        if not is_state(state, self.sizes):
            raise InvalidState("not a state of the plan")

    def check_writer(self, writer):
        """Raise an error if the value is not a writer of the plan."""
        if writer not in self.names:
            raise UnknownWriter(writer)

    def cells_of(self, writer):
        """List the indexes of the cells of the writer."""
        self.check_writer(writer)
        return [index for index, cell in enumerate(self.cells) if cell[0] == writer]

    def turned(self, state, turns):
        """Return the state after a list of turns."""
        self.check_state(state)
        marks = list(state)
        for index, mark in turns:
            if not is_index(index, len(marks)) or not is_index(mark, self.sizes[index]):
                raise InvalidState("not a turn of the plan")
            marks[index] = mark
        return tuple(marks)

    def updated(self, state, writer, done=None):
        """Return the state after the first turns of the writer's update, or after all of them."""
        turns = self.turns(state, writer)
        if done is None:
            return self.turned(state, turns)
        if done > len(turns):
            raise TooManyTurns(len(turns))
        return self.turned(state, turns[:done])

    def __contains__(self, x):
        return is_name(x) and x in self.names
