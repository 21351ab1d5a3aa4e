"""The store: the records of the writers of a plan, of which the told writer's is the newest."""

from forkflags.errors import InvalidImage, InvalidRecord, InvalidState, TooManyTurns
from forkflags.lines import is_record, read_number
from forkflags.packing import is_index
from forkflags.partial import possible_told


class Store:
    """The marks of a plan, and two slots and a pointer for each of its writers."""

    def __init__(self, plan, state=None):
        first = plan.start() if state is None else state
        plan.check_state(first)
        self.plan = plan
        self.state = first
        self._slots = {name: ["", ""] for name in plan.names}
        self._pointers = {name: 0 for name in plan.names}

    @property
    def newest(self):
        """The pair of the told writer and its record."""
        writer = self.plan.told(self.state)
        return (writer, self.record(writer))

    def record(self, writer):
        """Return the good slot of a writer."""
        good = self.pointer(writer)
        return self._slots[writer][good]

    def spare(self, writer):
        """Return the spare slot of a writer."""
        good = self.pointer(writer)
        return self._slots[writer][1 - good]

    def pointer(self, writer):
        """Return the number of the good slot of a writer."""
        self.plan.check_writer(writer)
        return self._pointers[writer]

    def step_count(self, writer, text):
        """Return the number of steps in which this record is written."""
        self.plan.check_writer(writer)
        if not is_record(text):
            raise InvalidRecord("a record has at most 200 characters from the space to ~")
        return len(text) + 2 + len(self.plan.turns(self.state, writer))

    def write(self, writer, text, steps=None):
        """Make the first steps of writing a record, or all of them, and return their number."""
        most = self.step_count(writer, text)
        made = most if steps is None else steps
        if made > most:
            raise TooManyTurns(most)
        spare = 1 - self._pointers[writer]
        if made > 0:
            self._slots[writer][spare] = text[:made - 1]
        # One step empties the slot, one for each character fills it, and one turns the pointer.
        done = made - len(text) - 2
        if done >= 0:
            self._pointers[writer] = spare
            self.state = self.plan.updated(self.state, writer, done)
        return made

    def image(self):
        """Return the store as a list of lines."""
        lines = [" ".join(["marks"] + [str(mark) for mark in self.state])]
        for name in self.plan.names:
            lines.append(f"writer {name} {self._pointers[name]}")
            lines.extend([">" + slot for slot in self._slots[name]])
        return lines

    @classmethod
    def from_image(cls, plan, lines):
        """Return the store with this image."""
        _check_image(plan, lines)
        store = cls(plan, _read_marks(plan, lines[0]))
        for place, name in enumerate(plan.names):
            head, first, second = lines[3 * place + 1:3 * place + 4]
            store._pointers[name] = int(head[-1])
            store._slots[name] = [first[1:], second[1:]]
        return store

    def twin(self):
        """Return another store with the same plan, state, slots and pointers."""
        return self.moved(self.plan, self.state)

    def moved(self, plan, state):
        """Return a store of another plan and state in which the writers that stay keep their slots and pointers."""
        other = Store(plan, state)
        for name in plan.names:
            if name in self.plan:
                other._slots[name] = list(self._slots[name])
                other._pointers[name] = self._pointers[name]
        return other

    def salvage(self, lost):
        """List the pairs that can be the newest one if the marks of these flags are lost."""
        if not all([is_index(index, len(self.state)) for index in lost]):
            raise InvalidState("not the index of a flag")
        marks = [None if index in lost else mark for index, mark in enumerate(self.state)]
        return [(name, self.record(name)) for name in possible_told(self.plan, marks)]


def _check_image(plan, lines):
    """Raise an error at the first line that no image of a store of this plan has there."""
    count = 1 + 3 * len(plan.names)
    for place, line in enumerate(lines):
        if place == count or not _is_line(plan, place, line):
            raise InvalidImage(place + 1)
    if len(lines) < count:
        raise InvalidImage(len(lines) + 1)


def _is_line(plan, place, line):
    """Tell whether the line can stand at this place, counted from 0, of an image."""
    if place == 0:
        return _read_marks(plan, line) is not None
    if place % 3 == 1:
        name = plan.names[place // 3]
        return line in (f"writer {name} 0", f"writer {name} 1")
    return line[:1] == ">" and is_record(line[1:])


def _read_marks(plan, line):
    """Return the state that the first line of an image tells, or None if it tells none."""
    words = line.split(" ")
    if words[0] != "marks" or len(words) != 1 + len(plan.sizes):
        return None
    marks = [read_number(word, size) for word, size in zip(words[1:], plan.sizes)]
    return None if None in marks else tuple(marks)
