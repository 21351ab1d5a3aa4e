"""Point 8: numbers of states."""

from forkflags.errors import InvalidState
from forkflags.packing import pack, state_count, unpack
from tests.helpers import Case, all_states


class PackingTest(Case):

    def test_example(self):
        self.gives(8, pack, (1, 0, 2), [2, 2, 3])
        self.gives((1, 0, 2), unpack, 8, [2, 2, 3])

    def test_all_states_in_order(self):
        for sizes in [[], [1], [4], [2, 2, 3], [3, 2, 2], [1, 2, 1], [2, 2, 2, 2], [5, 1, 3]]:
            states = sorted(all_states(sizes))
            self.gives(len(states), state_count, sizes)
            for number, state in enumerate(states):
                self.gives(number, pack, state, sizes)
                self.gives(state, unpack, number, sizes)

    def test_no_cells(self):
        self.gives(1, state_count, [])
        self.gives(0, pack, (), [])
        self.gives((), unpack, 0, [])
        self.fails(InvalidState, {}, unpack, 1, [])
        self.fails(InvalidState, {}, unpack, -1, [])
        self.fails(InvalidState, {}, pack, (0,), [])

    def test_very_many_states(self):
        sizes = [2 + index % 59 for index in range(100)]
        count = 1
        for size in sizes:
            count *= size
        last = tuple([size - 1 for size in sizes])
        self.gives(count, state_count, sizes)
        self.gives(count - 1, pack, last, sizes)
        self.gives(last, unpack, count - 1, sizes)
        self.gives(0, pack, (0,) * 100, sizes)
        self.gives((0,) * 100, unpack, 0, sizes)
        self.gives(count // 2, pack, (1,) + (0,) * 99, sizes)
        self.gives((0,) * 99 + (1,), unpack, 1, sizes)
        for number in [12345678901234567890, count // 3, count // 7 * 6]:
            self.gives(number, pack, unpack(number, sizes), sizes)
        for number in [count, -1, count * 2]:
            self.fails(InvalidState, {}, unpack, number, sizes)

    def test_great_sizes(self):
        sizes = [10 ** 50, 3, 10 ** 40]
        self.gives(3 * 10 ** 90, state_count, sizes)
        self.gives(7 * 3 * 10 ** 40 + 2 * 10 ** 40 + 5, pack, (7, 2, 5), sizes)
        self.gives((7, 2, 5), unpack, 7 * 3 * 10 ** 40 + 2 * 10 ** 40 + 5, sizes)

    def test_wrong_states(self):
        for state in [
            [0, 0, 0], "000", None, 0, {}, (), (0, 0), (0, 0, 0, 0), (2, 0, 0), (0, 2, 0), (0, 0, 3), (-1, 0, 0),
            (0, 0, -1), (True, 0, 0), (0, False, 0), (0, 0, None), ("0", 0, 0), (0, 0, 1.0), ((0,), 0, 0),
            (0, 0, [0]), (0, 0, 10 ** 40),
        ]:
            self.fails(InvalidState, {}, pack, state, [2, 2, 3])

    def test_wrong_numbers(self):
        for number in [12, 13, -1, -12, 10 ** 40]:
            self.fails(InvalidState, {}, unpack, number, [2, 2, 3])
