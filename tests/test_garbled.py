"""Points 64 to 66: garbled dials."""

from itertools import product

from forkflags.errors import InvalidName, InvalidSizes, InvalidState, InvalidTable, TooMany
from forkflags.garbled import garbled_fault, parity_table
from forkflags.ruled import RuledTable
from forkflags.tables import ReadingTable, table_of
from forkflags.townplan import TownPlan
from tests.helpers import NO_NAMES, Case, all_states
from tests.test_history import drawn
from tests.test_tables import BAD_SIZES, drawn_readings
from tests.test_townplan import SIZES
from tests.test_towns import TOWN

DIALS = [{"a": [2], "b": [2]}, {"a": [3], "b": [2], "c": [2]}, {"a": [4], "b": [3]}, {"b": [5]}, {"a": [1], "b": [4]}]
VALUES = ["a", "b", "even", "odd"]


def drawn_rights(names, number, values):
    """Return drawn rights: for each writer a list of values, which may be empty."""
    draw = drawn(number * 13 + 5)
    return {name: [value for value in values if draw(2)] for name in names}


def writes(table, rights, state):
    """List the possible writes: the writer, the value, the states of the dial, and whether it is faulty."""
    found = []
    for at, writer in enumerate(table.names):
        line = [state[:at] + (mark,) + state[at + 1:] for mark in range(table.sizes[at])]
        told = [table.told(other) for other in line]
        for value in rights[writer]:
            if value != table.told(state):
                third = any(name not in (table.told(state), value) for name in told)
                found.append((writer, value, line, third or value not in told))
    return found


def plain_length(table, rights, start):
    """Return the number of steps of a shortest list that ends with a faulty write, or None."""
    seen, wave, length = {start}, {start}, 0
    while wave:
        length += 1
        after = set()
        for state in wave:
            for _, _, line, faulty in writes(table, rights, state):
                if faulty:
                    return length
                after.update(line)
        wave = after - seen
        seen |= wave
    return None


class GarbledCase(Case):

    def judge(self, table, rights, start, steps):
        """Ask, step by step, whether this is a list as point 64 has it."""
        self.assertIs(steps.__class__, list)
        state = start
        for at, (writer, value, mark) in enumerate(steps):
            found = [write for write in writes(table, rights, state) if write[:2] == (writer, value)]
            self.assertTrue(found, "no possible write")
            _, _, line, faulty = found[0]
            self.assertEqual(faulty, at == len(steps) - 1)
            if not faulty:
                self.assertIn(mark, range(len(line)))
                state = line[mark]
            elif mark is None:
                self.assertNotIn(value, [table.told(other) for other in line])
            else:
                self.assertNotIn(table.told(line[mark]), [table.told(state), value])

    def asked(self, table, rights, start):
        """Ask for a list that is right and as short as possible."""
        steps = garbled_fault(table, rights, start)
        length = plain_length(table, rights, start)
        self.assertEqual(None if steps is None else len(steps), length)
        if steps is not None:
            self.judge(table, rights, start, steps)
            self.assertLessEqual(len(steps), len(table.readings))
        return steps


class GarbledTest(GarbledCase):

    def test_drawn_tables(self):
        lengths = set()
        for cells in DIALS:
            for number in range(12):
                names = VALUES[:2 + number % 3]
                table = ReadingTable(cells, drawn_readings(cells, number, names))
                rights = drawn_rights(sorted(cells), number, names)
                for start in all_states(table.sizes):
                    steps = self.asked(table, rights, start)
                    lengths.add(None if steps is None else len(steps))
        self.assertTrue(lengths.issuperset({None, 1, 2, 3}), lengths)

    def test_no_right_at_all(self):
        for cells in DIALS:
            table = ReadingTable(cells, drawn_readings(cells, 1))
            for start in all_states(table.sizes):
                self.gives(None, garbled_fault, table, {name: [] for name in cells}, start)

    def test_one_value(self):
        table = ReadingTable({"a": [2], "b": [2]}, ["v", "v", "v", "v"])
        rights = {"a": ["v"], "b": []}
        self.gives(None, garbled_fault, table, rights, (0, 0))
        table = ReadingTable({"a": [2], "b": [2]}, ["x", "v", "v", "v"])
        self.gives(None, garbled_fault, table, rights, (0, 0))
        table = ReadingTable({"a": [2], "b": [2]}, ["x", "v", "x", "v"])
        self.gives([("a", "v", None)], garbled_fault, table, rights, (0, 0))
        self.gives(None, garbled_fault, table, rights, (0, 1))
        for cells in DIALS:
            for number in range(5):
                table = ReadingTable(cells, drawn_readings(cells, number))
                for start in all_states(table.sizes):
                    self.asked(table, {name: ["other"] for name in cells}, start)

    def test_third_name(self):
        table = ReadingTable({"a": [3]}, ["x", "y", "v"])
        self.gives([("a", "v", 1)], garbled_fault, table, {"a": ["v"]}, (0,))
        self.gives([("a", "v", 0)], garbled_fault, table, {"a": ["v"]}, (1,))
        self.gives(None, garbled_fault, table, {"a": ["v"]}, (2,))
        both = garbled_fault(table, {"a": ["w"]}, (0,))
        self.assertIn(both, [[("a", "w", 1)], [("a", "w", 2)], [("a", "w", None)]])

    def test_mark_that_stays(self):
        # From x, a may write v; whatever mark it leaves, also the old one, w can come up with b alone.
        table = ReadingTable({"a": [2], "b": [3]}, ["x", "x", "w", "v", "v", "v"])
        self.gives([("b", "w", None)], garbled_fault, table, {"a": [], "b": ["w"]}, (1, 0))
        self.gives([("a", "v", 1), ("b", "w", None)], garbled_fault, table, {"a": ["v"], "b": ["w"]}, (0, 0))
        # The dial of b may stay where it is, although it is written.
        self.asked(table, {"a": ["v"], "b": ["w"]}, (0, 1))
        steps = self.asked(table, {"a": ["x"], "b": ["w"]}, (0, 0))
        self.assertEqual(len(steps), 2)
        self.assertEqual(steps[0], ("b", "w", 2))

    def test_writing_the_told_value_is_not_possible(self):
        table = ReadingTable({"a": [2], "b": [2]}, ["v", "x", "y", "z"])
        self.gives(None, garbled_fault, table, {"a": ["v"], "b": ["v"]}, (0, 0))
        self.assertEqual(len(garbled_fault(table, {"a": ["v"], "b": ["v"]}, (0, 1))), 1)

    def test_three_values_are_never_safe(self):
        for cells in DIALS:
            for number in range(6):
                values = [*sorted(cells), "even", "odd"][:4]
                table = ReadingTable(cells, drawn_readings(cells, number, values))
                rights = drawn_rights(sorted(cells), number, values)
                rights["b"] = [*rights["b"], "u", "v"]
                rights[sorted(cells)[0]].append("w")
                for start in all_states(table.sizes):
                    steps = self.asked(table, rights, start)
                    self.assertIsNotNone(steps)

    def test_three_values_by_sums(self):
        # No write is faulty in the first states, but one comes up.
        for sizes in [[2, 2, 2], [3, 3, 3], [4, 4, 4], [6, 6, 6]]:
            cells = dict(zip("abc", [[size] for size in sizes]))
            for rule in [sum, max, min, lambda marks: marks[0] * marks[1] + marks[2]]:
                readings = ["abc"[rule(state) % 3] for state in all_states(sizes)]
                table = ReadingTable(cells, readings)
                steps = self.asked(table, {name: [name] for name in "abc"}, (0, 0, 0))
                self.assertIsNotNone(steps)

    def test_all_tables_of_two_flags(self):
        for readings in product(["a", "b", "c"], repeat=4):
            table = ReadingTable({"a": [2], "b": [2]}, list(readings))
            for rights in [{"a": ["a"], "b": ["b", "c"]}, {"a": ["a", "b", "c"], "b": []}]:
                for start in all_states([2, 2]):
                    self.assertIsNotNone(self.asked(table, rights, start))
            for rights in [{"a": ["a"], "b": ["b"]}, {"a": [], "b": ["c"]}, {"a": ["a", "b"], "b": ["b"]}]:
                for start in all_states([2, 2]):
                    self.asked(table, rights, start)

    def test_result_is_new_and_arguments_stay(self):
        table = ReadingTable({"a": [3], "b": [2]}, list("abbbca"))
        rights = {"a": ["a", "b"], "b": ["c"]}
        steps = garbled_fault(table, rights, (0, 0))
        self.gives_new(steps, garbled_fault, table, rights, (0, 0))
        self.assertEqual(table.readings, list("abbbca"))
        rights["a"].clear()
        self.assertEqual(garbled_fault(table, {"a": ["a", "b"], "b": ["c"]}, (0, 0)), steps)

    def test_other_tables(self):
        ruled = RuledTable({"a": [2], "b": [2]}, list("abba"), {(0, "b"): [(1, 1)]})
        self.gives(None, garbled_fault, ruled, {"a": ["a", "b"], "b": ["b", "a"]}, (0, 0))
        table = table_of(TownPlan(TOWN, SIZES))
        self.asked(table, {name: [name] for name in "abc"}, (0, 0, 0))


class GarbledErrorsTest(Case):

    def test_not_one_cell(self):
        for cells in [{"a": [2], "b": []}, {"a": [2, 1], "b": [2]}, {"a": []}, {"a": [1, 1, 1]}]:
            table = ReadingTable(cells, drawn_readings(cells, 1))
            rights = {name: [] for name in cells}
            for start in [table.start(), None, (9, 9), ()]:
                self.fails(InvalidTable, {}, garbled_fault, table, rights, start)

    def test_invalid_state(self):
        table = ReadingTable({"a": [2], "b": [3]}, list("abbaab"))
        for start in [(0,), (0, 0, 0), (2, 0), (0, 3), (0, -1), [0, 0], None, (True, 0), (0, None), "00", 0]:
            self.fails(InvalidState, {}, garbled_fault, table, {"a": [], "b": []}, start)


class ParityTest(GarbledCase):

    def test_readings(self):
        for sizes in [
            {"a": 2}, {"b": 3, "a": 2}, {"a": 60}, {"a": 4, "c": 2, "b": 5}, {"a": 16, "b": 16},
            {name: 2 for name in "abcdef"}, {"x": 2, "y": 60, "z": 2},
        ]:
            kept = list(sizes)
            table = parity_table(sizes, "even", "odd")
            self.assertIs(table.__class__, ReadingTable)
            self.assertEqual([table.names, list(sizes)], [sorted(sizes), kept])
            self.assertEqual(table.cells, [(name, 0) for name in sorted(sizes)])
            self.assertEqual(table.sizes, [sizes[name] for name in sorted(sizes)])
            for state in all_states(table.sizes):
                self.assertEqual(table.told(state), ["even", "odd"][state.count(1) % 2])

    def test_two_values_are_safe(self):
        for sizes in [{"a": 2}, {"b": 3, "a": 2}, {"a": 4, "c": 2, "b": 5}, {"a": 2, "b": 60}, dict.fromkeys("abcdef", 2)]:
            table = parity_table(sizes, "b", "v")
            for number in range(6):
                rights = drawn_rights(sorted(sizes), number, ["v", "b"]) if number else {name: ["v", "b"] for name in sizes}
                states = all_states(table.sizes)
                for start in states[::max(1, len(states) // 10)]:
                    self.gives(None, garbled_fault, table, rights, start)

    def test_third_value(self):
        table = parity_table({"a": 2, "b": 2}, "x", "y")
        self.gives_new([("a", "z", None)], garbled_fault, table, {"a": ["z"], "b": ["x", "y"]}, (0, 0))

    def test_sizes_may_change_afterwards(self):
        sizes = {"a": 2, "b": 2}
        table = parity_table(sizes, "x", "y")
        sizes["a"] = 5
        del sizes["b"]
        self.assertEqual([table.sizes, table.readings], [[2, 2], ["x", "y", "y", "x"]])

    def test_errors_in_order(self):
        for name in [value for value in NO_NAMES if isinstance(value, str)]:
            self.fails(InvalidName, {"name": name}, parity_table, {"a": 0, name: 1}, "A", "B")
        for size in [*BAD_SIZES, 1]:
            self.fails(InvalidSizes, {"writer": "b"}, parity_table, {"c": 0, "b": size, "a": 60}, "A", "B")
            self.fails(InvalidSizes, {"writer": "a"}, parity_table, {"a": size}, "x", "y")
        for sizes in [{"a": 60, "b": 5}, {"a": 60, "b": 60, "c": 60}, dict.fromkeys("abcdefgh", 60), {"a": 2, "b": 43, "c": 3}]:
            self.fails(TooMany, {"most": 256}, parity_table, sizes, "A", "B")
            self.fails(TooMany, {"most": 256}, parity_table, sizes, "x", "y")
        for name in NO_NAMES:
            self.fails(InvalidName, {"name": name}, parity_table, {"a": 2}, name, "B")
            self.fails(InvalidName, {"name": name}, parity_table, {"a": 2}, "x", name)
