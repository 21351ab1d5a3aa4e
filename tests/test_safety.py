"""Points 56 to 60: the greatest safe set."""

from itertools import combinations, product

from forkflags.errors import InvalidState, UnknownWriter
from forkflags.forkplan import ForkPlan
from forkflags.ratchets import RatchetPlan
from forkflags.ruled import RuledTable
from forkflags.safety import removal_rounds, safe_states, safe_way
from forkflags.shares import Share
from forkflags.tables import ReadingTable, line_sum, table_of, told_counts
from forkflags.townplan import TownPlan
from tests.helpers import Case, all_states
from tests.test_forkplan import SMALL_TREES
from tests.test_history import NO_WRITERS
from tests.test_ratchets import FEW, some_rings
from tests.test_tables import CELLS, drawn_readings, sizes_of
from tests.test_townplan import SMALL

# Cells of at most eight states, so that all sets of states can be tried.
TINY = [
    {"a": [2], "b": [2]}, {"a": [2], "b": [2], "c": [2]}, {"a": [2, 2], "b": [2]}, {"a": [], "b": [2, 2]},
    {"a": [3], "b": [2]}, {"a": [2, 2, 2]}, {"a": [8]}, {"a": [4], "b": [2]}, {"a": []}, {"a": [], "b": []},
    {"a": [1], "b": [5]}, {"a": [2, 3], "b": []},
]


def stairs(count):
    """Return a table in which one writer has a safe way of 2 * (count - 1) turns, and none that is shorter."""
    steps = [(at, at) for at in range(count)] + [(at, at + 1) for at in range(count - 1)]
    readings = ["x" if state in steps else "y" for state in all_states([count, count])]
    readings[-1] = "b"
    return ReadingTable({"b": [count, count]}, readings)


def some_tables():
    """Return tables with readings of several kinds: drawn ones, with and without a name that is no writer."""
    tables = []
    for cells in [*TINY, *CELLS]:
        for number in range(3):
            tables.append(ReadingTable(cells, drawn_readings(cells, number)))
            tables.append(ReadingTable(cells, drawn_readings(cells, number + 9, sorted(cells))))
    # Whoever turns a dial of three marks by the right number is told.
    tables.append(ReadingTable({name: [3] for name in "abc"}, ["abc"[sum(state) % 3] for state in all_states([3] * 3)]))
    return tables


def small_plans():
    """Return fork plans, town plans and ratchet plans of at most 256 states."""
    plans = [ForkPlan(tree) for tree in SMALL_TREES]
    plans += [TownPlan(town, sizes) for town, sizes in SMALL]
    plans += [RatchetPlan(town, sizes, some_rings(sizes, 1)) for town, sizes in FEW]
    return [plan for plan in plans if len(all_states(plan.sizes)) <= 256]


def next_states(table, state, writer):
    """List the states after one turn of the writer, found without the program."""
    return [
        state[:at] + (mark,) + state[at + 1:]
        for at, (owner, _) in enumerate(table.cells) if owner == writer
        for mark in range(table.sizes[at]) if mark != state[at]
    ]


def plain_length(told, inside, table, state, writer):
    """Return the least number of turns of a safe way in a set of states, or None, found without the program."""
    if told[state] == writer:
        return 0
    seen, wave, length = {state}, {state}, 0
    while wave:
        length += 1
        after = {other for now in wave for other in next_states(table, now, writer) if other in inside}
        if any(told[other] == writer for other in after):
            return length
        wave = {other for other in after if told[other] == told[state]} - seen
        seen |= wave
    return None


def without_way(table, told, inside):
    """Return the states of a set from which some writer has no safe way in it."""
    return {
        state for state in inside
        if any(plain_length(told, inside, table, state, writer) is None for writer in table.names)
    }


def readings_of(table):
    return {state: table.told(state) for state in all_states(table.sizes)}


def plain_rounds(table):
    """Return the numbers of the rounds that remove states, found without the program."""
    told = readings_of(table)
    left, rounds, number = set(told), {}, 0
    while True:
        number += 1
        removed = without_way(table, told, left)
        if not removed:
            return rounds
        rounds.update({state: number for state in removed})
        left -= removed


class ExamplesTest(Case):

    def test_examples(self):
        table = ReadingTable({"a": [2], "b": [2]}, ["a", "a", "b", "a"])
        self.gives_new([], safe_states, table)
        self.gives_new({(0, 0): 1, (0, 1): 1, (1, 0): 2, (1, 1): 3}, removal_rounds, table)
        table = ReadingTable({"a": [2], "b": [2]}, ["a", "b", "b", "a"])
        self.gives_new([(0, 0), (0, 1), (1, 0), (1, 1)], safe_states, table)
        self.gives_new({}, removal_rounds, table)


class SafeStatesTest(Case):

    def test_union_of_all_safe_sets(self):
        for cells in TINY:
            for number in range(4):
                table = ReadingTable(cells, drawn_readings(cells, number, sorted(cells) if number % 2 else None))
                self.greatest(table)

    def test_all_tables_of_two_flags(self):
        for readings in product(["a", "b", "x"], repeat=4):
            self.greatest(ReadingTable({"a": [2], "b": [2]}, list(readings)))

    def greatest(self, table):
        """Ask for the union of all safe sets, each of which is tried."""
        told = readings_of(table)
        union = set()
        for many in range(len(told), 0, -1):
            for part in combinations(sorted(told), many):
                if not union.issuperset(part) and not without_way(table, told, set(part)):
                    union |= set(part)
        self.assertEqual(safe_states(table), sorted(union))

    def test_nothing_can_be_removed(self):
        for table in some_tables():
            told = readings_of(table)
            found = safe_states(table)
            self.assertEqual(found, sorted(set(found)))
            self.assertFalse(without_way(table, told, set(found)))
            self.gives_new(sorted(set(told) - set(plain_rounds(table))), safe_states, table)

    def test_some_states_safe(self):
        # Only where the dial of x stands at 0 can both others be told.
        names = {0: {0: "a", 1: "b"}, 1: {0: "x", 1: "x"}}
        readings = [names[x][(a + b) % 2] for a, b, x in all_states([2, 2, 2])]
        table = ReadingTable({"a": [2], "b": [2], "c": [2]}, readings)
        self.gives_new([], safe_states, table)
        table = ReadingTable({"a": [2], "b": [2, 2]}, readings)
        self.gives_new([(0, 0, 0), (0, 1, 0), (1, 0, 0), (1, 1, 0)], safe_states, table)
        self.gives_new({(0, 0, 1): 1, (0, 1, 1): 1, (1, 0, 1): 1, (1, 1, 1): 1}, removal_rounds, table)

    def test_one_writer(self):
        self.gives_new([()], safe_states, ReadingTable({"a": []}, ["a"]))
        self.gives_new([], safe_states, ReadingTable({"a": []}, ["b"]))
        self.gives_new([], safe_states, ReadingTable({"a": [], "b": []}, ["a"]))
        self.gives_new([(0,), (1,), (2,)], safe_states, ReadingTable({"a": [3]}, ["x", "a", "y"]))

    def test_ruled_table(self):
        ruled = RuledTable({"a": [2], "b": [2]}, ["a", "b", "b", "a"], {(0, "b"): [(1, 1), (1, 0)]})
        self.gives_new(all_states([2, 2]), safe_states, ruled)


class SafeWayTest(Case):

    def judge(self, table, states, state, writer, way):
        """Ask whether this is a safe way in the set of the states."""
        told = table.told(state)
        now = state
        self.assertIs(way.__class__, list)
        for at, (index, mark) in enumerate(way):
            self.assertEqual(table.cells[index][0], writer)
            self.assertNotEqual(now[index], mark)
            now = table.turned(now, [(index, mark)])
            self.assertIn(now, states)
            self.assertEqual(table.told(now), told if at < len(way) - 1 else writer)
        self.assertEqual(table.told(now), writer)

    def test_shortest_ways(self):
        for number, table in enumerate(some_tables()):
            told = readings_of(table)
            states = sorted(told)
            sets = [states, safe_states(table), states[::2], states[number % 3::3] * 2, states[::-1]]
            for listed in sets:
                for state in listed[::max(1, len(listed) // 9)]:
                    for writer in table.names:
                        length = plain_length(told, set(listed), table, state, writer)
                        way = safe_way(table, listed, state, writer)
                        self.assertEqual(None if way is None else len(way), length)
                        if way is not None:
                            self.judge(table, listed, state, writer, way)

    def test_all_sets_of_a_small_table(self):
        table = ReadingTable({"a": [2], "b": [2, 2]}, list("abxabbax"))
        told = readings_of(table)
        for many in range(1, 9):
            for listed in combinations(sorted(told), many):
                for state in listed:
                    for writer in "ab":
                        way = safe_way(table, list(listed), state, writer)
                        length = plain_length(told, set(listed), table, state, writer)
                        self.assertEqual(None if way is None else len(way), length)

    def test_told_writer(self):
        table = ReadingTable({"a": [2], "b": [2]}, ["a", "b", "b", "a"])
        self.gives_new([], safe_way, table, [(0, 0)], (0, 0), "a")
        self.gives(None, safe_way, table, [(0, 0)], (0, 0), "b")
        self.gives_new([(1, 1)], safe_way, table, [(0, 0), (0, 1)], (0, 0), "b")

    def test_twice_in_the_list(self):
        table = ReadingTable({"a": [2], "b": [2]}, ["a", "b", "b", "a"])
        listed = [(0, 1), (0, 0), (0, 0), (0, 1), (0, 0)]
        self.gives_new([(1, 1)], safe_way, table, listed, (0, 0), "b")
        self.gives(None, safe_way, table, listed, (0, 1), "a")
        self.gives_new([(0, 1)], safe_way, table, [*listed, (1, 1), (1, 1)], (0, 1), "a")

    def test_longer_than_one_turn(self):
        # A third name bars the direct way, so the writer goes round it.
        table = ReadingTable({"a": [], "b": [2, 2]}, ["a", "x", "a", "b"])
        self.gives_new([(0, 1), (1, 1)], safe_way, table, all_states([2, 2]), (0, 0), "b")
        self.gives(None, safe_way, table, [(0, 0), (0, 1), (1, 1)], (0, 0), "b")
        table = stairs(12)
        way = safe_way(table, all_states([12, 12]), (0, 0), "b")
        self.assertEqual(len(way), 22)
        self.judge(table, all_states([12, 12]), (0, 0), "b", way)

    def test_told_name_may_not_change_on_the_way(self):
        table = ReadingTable({"a": [], "b": [3, 2]}, ["a", "x", "c", "c", "b", "b"])
        self.gives_new([(0, 2)], safe_way, table, all_states([3, 2]), (0, 0), "b")
        listed = [(0, 0), (1, 0), (1, 1), (2, 1), (0, 1)]
        self.gives(None, safe_way, table, listed, (0, 0), "b")
        self.gives_new([(1, 1), (0, 2)], safe_way, table, listed, (1, 0), "b")

    def test_errors_in_order(self):
        table = ReadingTable({"a": [2], "b": [2]}, ["a", "b", "b", "a"])
        listed = [(0, 0), (0, 1)]
        for state in [(1, 1), (1, 0), (0,), (0, 0, 0), (2, 0), [0, 0], None, (True, 0), (0, False)]:
            self.fails(InvalidState, {}, safe_way, table, listed, state, "zz")
        self.fails(InvalidState, {}, safe_way, table, [], (0, 0), "a")
        for writer in NO_WRITERS:
            self.fails(UnknownWriter, {"writer": writer}, safe_way, table, listed, (0, 0), writer)


class RoundsTest(Case):

    def test_all_rounds(self):
        for table in some_tables():
            wanted = plain_rounds(table)
            self.gives_new(wanted, removal_rounds, table)
            found = removal_rounds(table)
            self.assertEqual(list(found), sorted(found))
            self.assertEqual(set(found.values()), set(range(1, max(found.values(), default=0) + 1)))
            left = [state for state in all_states(table.sizes) if state not in found]
            self.assertEqual(safe_states(table), left)

    def test_all_tables_of_two_flags(self):
        for readings in product(["a", "b", "x"], repeat=4):
            table = ReadingTable({"a": [2], "b": [2]}, list(readings))
            self.assertEqual(removal_rounds(table), plain_rounds(table))


class LimitsTest(Case):

    def test_line_sum_of_safe_sets(self):
        exact = 0
        for table in some_tables():
            sizes = {name: [table.sizes[at] for at in table.cells_of(name)] for name in table.names}
            found = safe_states(table)
            total = line_sum(sizes)
            if not total.at_most(Share(1)):
                self.assertEqual(found, [])
            if total == Share(1):
                exact += 1
                self.assertIn(len(found), [0, len(table.readings)])
            counts = told_counts(table, found)
            for name in table.names:
                self.assertGreaterEqual(counts[name] * len(table.line_of(table.start(), name)), len(found))
        self.assertGreater(exact, 5)

    def test_all_or_none(self):
        kinds = set()
        for readings in product(["a", "b", "x"], repeat=4):
            kinds.add(len(safe_states(ReadingTable({"a": [2], "b": [2]}, list(readings)))))
        self.assertEqual(kinds, {0, 4})

    def test_all_states_of_plans_are_safe(self):
        plans = small_plans()
        self.assertGreater(len(plans), 15)
        for plan in plans:
            table = table_of(plan)
            self.gives_new(all_states(plan.sizes), safe_states, table)
            self.gives_new({}, removal_rounds, table)

    def test_flags_with_too_great_a_sum(self):
        for cells in [{"a": [2], "b": [2], "c": [2, 2]}, {"a": [], "b": [2] * 4}, {name: [2] for name in "abcd"}]:
            self.assertFalse(line_sum(cells).at_most(Share(1)))
            for number in range(25):
                readings = drawn_readings(cells, number, sorted(cells))
                self.assertEqual(safe_states(ReadingTable(cells, readings)), [])

    def test_flags_with_a_small_sum(self):
        for budgets in [{"a": 0}, {"a": 1, "b": 1}, {"a": 2, "b": 1, "c": 2}, {"a": 3, "b": 1, "c": 3}]:
            self.assertTrue(line_sum({name: [2] * budgets[name] for name in budgets}).at_most(Share(1)))
            plan = ForkPlan.fitted(budgets)
            self.assertEqual(safe_states(table_of(plan)), all_states(plan.sizes))

    def test_greatest_tables(self):
        for cells in CELLS[-5:]:
            table = ReadingTable(cells, drawn_readings(cells, 6))
            self.assertLessEqual(len(table.readings), 256)
            self.assertEqual(len(table.readings), len(all_states(sizes_of(cells))))
            self.assertEqual(len(safe_states(table)) + len(removal_rounds(table)), len(table.readings))
