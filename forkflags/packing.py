"""Numbers of states: a state of cells is written as one integer and read back."""

from forkflags.errors import InvalidState

MOST_MARKS = 60


def is_index(value, count):
    """Tell whether the value is an integer from 0 to count - 1."""
    # For Python True and False are integers, here they are not.
    return isinstance(value, int) and not isinstance(value, bool) and 0 <= value < count


def is_size(value):
    """Tell whether the value is a number of marks that a dial or a cell of a table may have."""
    return is_index(value, MOST_MARKS + 1) and value > 0


def is_state(value, sizes):
    """Tell whether the value is a state of cells of these sizes."""
    if not isinstance(value, tuple) or len(value) != len(sizes):
        return False
    return all([is_index(mark, size) for mark, size in zip(value, sizes)])


def state_count(sizes):
    """Return the number of states of cells of these sizes."""
    count = 1
    for size in sizes:
        count = count * size
    return count


def pack(state, sizes):
    """Return the number of a state."""
    if not is_state(state, sizes):
        raise InvalidState("not a state of these sizes")
    number = 0
    for mark, size in zip(state, sizes):
        number = number * size + mark
    return number


def unpack(number, sizes):
    """Return the state with this number."""
    if not is_index(number, state_count(sizes)):
        raise InvalidState("not the number of a state of these sizes")
    marks = []
    rest = number
    for size in sizes[::-1]:
        rest, mark = divmod(rest, size)
        marks.append(mark)
    return tuple(marks[::-1])


def states_of(sizes):
    """List all states of cells of these sizes, ascending."""
    return [unpack(number, sizes) for number in range(state_count(sizes))]
