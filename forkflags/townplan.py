"""The plan of a town: each writer has one dial, and sees its own house and the boards above it."""

from forkflags.dials import DialCode
from forkflags.errors import SumTooGreat, UnknownHall
from forkflags.packing import pack, unpack
from forkflags.plans import Plan
from forkflags.towns import counts_above, hall_at, house_of, houses_of, named_halls, town_names, ways_to
from forkflags.townsums import town_fault


class TownPlan(Plan):
    """The plan in which the boards of the halls lead from the town to the told writer."""

    def __init__(self, town, sizes):
        fault = town_fault(town, sizes)
        if fault is not None:
            raise SumTooGreat(fault[1])
        names = town_names(town)
        super().__init__(names, [(name, 0) for name in names], [sizes[name] for name in names])
        self.town = town
        self._halls = dict(named_halls(town))
        self._houses = {name: house_of(town, name) for name in names}
        self._counts = {house: counts_above(town, house) for house in houses_of(town)}
        self._codes = {house: _code_of(town, sizes, house) for house in houses_of(town)}
        self._dial_of = {name: index for index, name in enumerate(names)}

    def told(self, state):
        """Return the writer that is found by following the boards from the town."""
        self.check_state(state)
        hall = ""
        while hall not in self._codes:
            hall = hall + str(self._board(state, hall))
        return self._halls[hall][self._board(state, hall)]

    def board(self, state, hall):
        """Return the index of the entry that the hall shows."""
        self.check_state(state)
        # The list also answers for values that cannot be keys.
        if hall not in list(self._halls):
            raise UnknownHall(hall)
        return self._board(state, hall)

    def _board(self, state, hall):
        entries = self._halls[hall]
        if hall in self._codes:
            shown, _ = self._pair(state, hall)
            return [index for index, name in enumerate(entries) if name == shown][0]
        inside = [house for house in self._codes if house.startswith(hall)]
        return sum([self._phases(state, house)[len(hall)] for house in inside]) % len(entries)

    def _marks(self, state, names):
        return tuple([state[self._dial_of[name]] for name in names])

    def _pair(self, state, house):
        """Return the pair that the dial code of the house shows."""
        code = self._codes[house]
        return code.pair_shown(self._marks(state, code.names))

    def _phases(self, state, house):
        """Return the phases of the house for the halls above it, from the town inwards."""
        _, copy = self._pair(state, house)
        return unpack(copy, self._counts[house])

    def _boards_above(self, state, house):
        return [self._board(state, house[:level]) for level in range(len(house))]

    def turns(self, state, writer):
        """List the turns of the writer's update that begins in this state, one or none."""
        self.check_state(state)
        self.check_writer(writer)
        house = self._houses[writer]
        boards = self._boards_above(state, house)
        wanted = [int(digit) for digit in house]
        shown, _ = self._pair(state, house)
        if boards == wanted and shown == writer:
            return []
        counts = self._counts[house]
        phases = _moved(self._phases(state, house), boards, wanted, counts)
        code = self._codes[house]
        marks = self._marks(state, code.names)
        return [(self._dial_of[writer], code.mark_for(marks, writer, writer, pack(phases, counts)))]

    def sight(self, state, writer):
        """Return the marks of the writer's house and the boards of the halls above it."""
        self.check_state(state)
        self.check_writer(writer)
        house = self._houses[writer]
        return (self._marks(state, self._halls[house]), tuple(self._boards_above(state, house)))


def _moved(phases, boards, wanted, counts):
    """Return the phases that make each board show the wanted entry."""
    return tuple([
        (phase + entry - board) % count
        for phase, board, entry, count in zip(phases, boards, wanted, counts)
    ])


def _code_of(town, sizes, house):
    """Return the dial code of the house, with a copy for each way to it."""
    names = hall_at(town, house)
    return DialCode({name: sizes[name] for name in names}, {name: [name] for name in names}, ways_to(town, house))
