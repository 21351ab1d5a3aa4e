"""Points 54 and 55: reading tables."""

from itertools import product

from forkflags.errors import InvalidName, InvalidSizes, InvalidState, InvalidTable, TooMany, UnknownWriter
from forkflags.forkplan import ForkPlan
from forkflags.plans import Plan
from forkflags.ratchets import RatchetPlan
from forkflags.ruled import RuledTable
from forkflags.shares import Share
from forkflags.tables import ReadingTable, line_sum, table_of, told_counts
from forkflags.townplan import TownPlan
from tests.helpers import LETTERS, NO_NAMES, Case, all_states, comb_tree
from tests.test_forkplan import SMALL_TREES, TREE
from tests.test_history import NO_WRITERS, drawn
from tests.test_ratchets import FEW, some_rings
from tests.test_townplan import SMALL

# Tables of all kinds of cells: none, several, one state in all, size 1 and size 60.
CELLS = [
    {"a": [2], "b": [2]}, {"b": [3], "a": [2, 2]}, {"a": [], "b": [2, 3]}, {"a": []}, {"b": [], "a": []},
    {"a": [1]}, {"a": [1, 1], "c": [1], "b": []}, {"zz": [60]}, {"a": [60], "b": [4]}, {"a": [4], "b": [1, 60]},
    {"c": [2], "a": [3], "b": [2, 2]}, {name: [2] for name in "abcdef"}, {"a": [16], "b": [16]},
    {"a": [2] * 8}, {"a": [1] * 40, "b": [2]},
]
BAD_SIZES = [0, -1, 61, 62, 10 ** 30]
# Cells that have more than 256 states: a few more, and very many.
MANY = [
    {"a": [60], "b": [5]}, {"a": [2] * 9}, {"a": [2] * 8, "b": [2]}, {"a": [60], "b": [60]},
    {"a": [60] * 99}, {"a": [43], "b": [6]}, {"c": [], "a": [5, 52]},
]


class Wide(Plan):
    """A plan of seven writers whose dials are greater than a table may have."""

    def __init__(self):
        super().__init__(list("abcdefg"), [("a", 0), ("c", 0), ("c", 1)], [61, 1, 4])

    def told(self, state):
        self.check_state(state)
        return "abcdefg"[(state[0] + state[2]) % 7]

    def turns(self, state, writer):
        self.check_state(state)
        return [(0, (state[0] + 1) % 61)]


def sizes_of(cells):
    """List the sizes of all cells, in the order of the writers."""
    return [size for name in sorted(cells) for size in cells[name]]


def drawn_readings(cells, number, names=None):
    """Return drawn readings, also of a name that is no writer."""
    draw = drawn(number)
    names = [*sorted(cells), "other"] if names is None else names
    return [names[draw(len(names))] for _ in all_states(sizes_of(cells))]


class ReadingTableTest(Case):

    def test_attributes(self):
        for cells in CELLS:
            readings = drawn_readings(cells, 1)
            table = ReadingTable(cells, readings)
            names = sorted(cells)
            self.assertIsInstance(table, Plan)
            self.assertEqual(table.names, names)
            self.assertEqual(table.cells, [(name, level) for name in names for level in range(len(cells[name]))])
            self.assertEqual(table.sizes, sizes_of(cells))
            self.assertEqual(table.readings, readings)
            self.gives((0,) * len(table.sizes), table.start)
            for name in names:
                self.gives_new([at for at, cell in enumerate(table.cells) if cell[0] == name], table.cells_of, name)
                self.assertIs(name in table, True)
            self.assertIs("other" in table, False)

    def test_told(self):
        for cells in CELLS:
            readings = drawn_readings(cells, 2)
            table = ReadingTable(cells, readings)
            for state, name in zip(all_states(sizes_of(cells)), readings):
                self.assertEqual(table.told(state), name)

    def test_names_that_are_no_writers(self):
        table = ReadingTable({"a": [2], "b": [1]}, ["zzzzzzzz", "c"])
        self.gives("zzzzzzzz", table.told, (0, 0))
        self.gives("c", table.told, (1, 0))

    def test_one_state(self):
        for cells, state in [({"a": []}, ()), ({"a": [1], "b": [1]}, (0, 0))]:
            table = ReadingTable(cells, ["x"])
            self.gives("x", table.told, state)
            self.gives_new([state], table.line_of, state, "a")

    def test_told_of_no_state(self):
        table = ReadingTable({"a": [2], "b": [3]}, list("abcabc"))
        for state in [[0, 0], (0,), (0, 0, 0), (2, 0), (0, 3), (-1, 0), (True, 0), (0, None), None, "00", 0]:
            self.fails(InvalidState, {}, table.told, state)
            self.fails(InvalidState, {}, table.check_state, state)
            self.fails(InvalidState, {}, table.line_of, state, "zz")

    def test_copies(self):
        cells = {"b": [2], "a": [2, 1]}
        readings = ["a", "b", "c", "a"]
        table = ReadingTable(cells, readings)
        self.assertEqual([list(cells), readings], [["b", "a"], ["a", "b", "c", "a"]])
        readings[0] = "x"
        readings.append("y")
        cells["a"].append(2)
        cells["b"][0] = 3
        del cells["b"]
        self.assertEqual([table.sizes, table.names, table.readings], [[2, 1, 2], ["a", "b"], ["a", "b", "c", "a"]])
        self.assertEqual(table.told((0, 0, 0)), "a")
        self.assertEqual(table.cells, [("a", 0), ("a", 1), ("b", 0)])

    def test_has_no_turns(self):
        self.assertFalse(hasattr(ReadingTable({"a": []}, ["a"]), "turns"))

    def test_limits(self):
        for cells in [{"a": [2] * 8}, {"a": [16], "b": [16]}, {"a": [4, 1], "b": [8], "c": [8]}]:
            self.assertEqual(len(ReadingTable(cells, ["a"] * 256).readings), 256)
        # More writers than the document counts with are no error.
        self.assertEqual(ReadingTable({name: [] for name in "abcdefgh"}, ["a"]).names, list("abcdefgh"))


class LineTest(Case):

    def test_all_lines(self):
        for cells in CELLS:
            table = ReadingTable(cells, drawn_readings(cells, 3))
            states = all_states(table.sizes)
            for writer in table.names:
                others = [at for at, cell in enumerate(table.cells) if cell[0] != writer]
                for state in states[::max(1, len(states) // 12)]:
                    wanted = [other for other in states if all(other[at] == state[at] for at in others)]
                    self.gives_new(wanted, table.line_of, state, writer)
                    self.assertIn(state, wanted)

    def test_without_cells(self):
        table = ReadingTable({"a": [], "b": [3]}, ["a", "b", "c"])
        self.gives_new([(2,)], table.line_of, (2,), "a")
        self.gives_new([(0,), (1,), (2,)], table.line_of, (2,), "b")

    def test_unknown_writer(self):
        table = ReadingTable({"a": [2], "b": [2]}, list("abca"))
        for writer in [*NO_WRITERS, "c", "other"]:
            self.fails(UnknownWriter, {"writer": writer}, table.line_of, (0, 0), writer)


class TableErrorsTest(Case):

    def test_names(self):
        for name in [value for value in NO_NAMES if isinstance(value, str)]:
            self.fails(InvalidName, {"name": name}, ReadingTable, {"a": [0], name: [99]}, [])
        self.fails(InvalidName, {"name": "A"}, ReadingTable, {"a": [], "b1": [], "A": [], "b": []}, ["A"])

    def test_sizes(self):
        for size in BAD_SIZES:
            self.fails(InvalidSizes, {"writer": "b"}, ReadingTable, {"c": [0], "b": [2, size], "a": [60] * 9}, [])
            self.fails(InvalidSizes, {"writer": "a"}, ReadingTable, {"a": [size]}, ["a"])
        self.fails(InvalidSizes, {"writer": "b"}, ReadingTable, {"b": [1, 0], "a": []}, [])

    def test_too_many_states(self):
        for cells in MANY:
            self.fails(TooMany, {"most": 256}, ReadingTable, cells, [])
            self.fails(TooMany, {"most": 256}, ReadingTable, cells, ["A"])
        # A cell without a mark would leave no state; it is refused before the states are counted.
        self.fails(InvalidSizes, {"writer": "b"}, ReadingTable, {"a": [60] * 9, "b": [0]}, [])

    def test_number_of_readings(self):
        for readings in [[], ["a"], ["a"] * 3, ["a"] * 5, ["A"] * 5, ["A"]]:
            self.fails(InvalidTable, {}, ReadingTable, {"a": [2], "b": [2]}, readings)
        self.fails(InvalidTable, {}, ReadingTable, {"a": []}, [])

    def test_names_in_readings(self):
        for name in NO_NAMES:
            self.fails(InvalidName, {"name": name}, ReadingTable, {"a": [2], "b": [2]}, ["a", name, "B", "a"])


class TableOfTest(Case):

    def test_all_plans(self):
        plans = [ForkPlan(tree) for tree in SMALL_TREES]
        plans += [TownPlan(town, sizes) for town, sizes in SMALL]
        plans += [RatchetPlan(town, sizes, some_rings(sizes, 1)) for town, sizes in FEW]
        few = [plan for plan in plans if len(all_states(plan.sizes)) <= 256]
        self.assertGreater(len(few), 15)
        for plan in few:
            table = table_of(plan)
            self.assertIs(table.__class__, ReadingTable)
            self.assertEqual([table.names, table.cells, table.sizes], [plan.names, plan.cells, plan.sizes])
            self.assertEqual(table.readings, [plan.told(state) for state in all_states(plan.sizes)])
            for state in all_states(plan.sizes):
                self.assertEqual(table.told(state), plan.told(state))
            for writer in plan.names:
                self.assertEqual(table.cells_of(writer), plan.cells_of(writer))

    def test_tables(self):
        for cells in CELLS:
            first = ReadingTable(cells, drawn_readings(cells, 4))
            table = table_of(first)
            self.assertIs(table.__class__, ReadingTable)
            self.assertIsNot(table, first)
            for before, after in [
                (first.names, table.names), (first.cells, table.cells), (first.sizes, table.sizes),
                (first.readings, table.readings),
            ]:
                self.assertEqual(before, after)
                self.assertIsNot(before, after)

    def test_ruled_table(self):
        ruled = RuledTable({"a": [2], "b": [2]}, ["a", "b", "b", "a"], {(0, "b"): [(1, 1)]})
        table = table_of(ruled)
        self.assertIs(table.__class__, ReadingTable)
        self.assertFalse(hasattr(table, "turns"))
        self.assertEqual([table.sizes, table.readings], [[2, 2], ["a", "b", "b", "a"]])

    def test_greater_than_the_constructor_allows(self):
        table = table_of(Wide())
        self.assertEqual([table.names, table.sizes], [list("abcdefg"), [61, 1, 4]])
        self.assertEqual(table.cells, [("a", 0), ("c", 0), ("c", 1)])
        self.assertEqual([table.told((60, 0, 0)), table.told((60, 0, 3)), table.told((0, 0, 0))], ["e", "a", "a"])
        self.assertEqual(len(table.line_of((5, 0, 1), "a")), 61)
        self.assertEqual(table_of(table).readings, table.readings)
        self.assertEqual(table.cells_of("b"), [])
        ring = table_of(RatchetPlan(("a",), {"a": 2}, {"a": 240}))
        self.assertEqual([ring.sizes, ring.readings], [[240], ["a"] * 240])
        # These writers of a town are seven, but they have too many states.
        self.fails(TooMany, {"most": 256}, table_of, TownPlan(tuple("abcdefg"), {name: 7 for name in "abcdefg"}))

    def test_too_many_states(self):
        self.fails(TooMany, {"most": 256}, table_of, ForkPlan(comb_tree(LETTERS[:12])))
        self.fails(TooMany, {"most": 256}, table_of, ForkPlan(comb_tree(LETTERS[:4])))
        self.fails(TooMany, {"most": 256}, table_of, TownPlan(tuple("abcdefgh"), {name: 60 for name in "abcdefgh"}))
        self.fails(TooMany, {"most": 256}, table_of, RatchetPlan(("a", "b"), {"a": 2, "b": 2}, {"a": 240, "b": 2}))
        self.assertEqual(len(table_of(ForkPlan((("a", "b"), ("c", "d")))).readings), 256)


class CountsTest(Case):

    def test_all_states(self):
        for cells in CELLS:
            table = ReadingTable(cells, drawn_readings(cells, 5))
            states = all_states(table.sizes)
            wanted = {name: table.readings.count(name) for name in sorted(cells)}
            self.gives_new(wanted, told_counts, table, states)
            self.assertEqual(list(told_counts(table, states)), sorted(cells))
            self.gives_new({name: 0 for name in cells}, told_counts, table, [])

    def test_twice_in_the_list(self):
        table = ReadingTable({"a": [2], "b": [2]}, ["a", "b", "x", "a"])
        self.gives_new({"a": 3, "b": 2}, told_counts, table, [(0, 1), (0, 0), (1, 1), (0, 1), (1, 0), (0, 0)])
        self.gives_new({"a": 0, "b": 0}, told_counts, table, [(1, 0), (1, 0)])

    def test_plans_of_trees(self):
        plan = ForkPlan(TREE)
        table = table_of(plan)
        counts = told_counts(table, all_states(plan.sizes))
        self.assertEqual(counts, {name: plan.told_count(name) for name in "abc"})


class LineSumTest(Case):

    def test_ordinary(self):
        for cells, total in [
            ({"a": [2], "b": [2]}, Share(1)), ({"a": [2, 2], "b": [3]}, Share(7, 12)), ({"a": []}, Share(1)),
            ({"a": [], "b": []}, Share(2)), ({"a": [1], "b": [60]}, Share(61, 60)), ({"a": [60] * 2}, Share(1, 3600)),
            ({name: [2] for name in "abcdef"}, Share(3)),
        ]:
            self.gives(total, line_sum, cells)

    def test_no_limit(self):
        self.gives(Share(1, 60 ** 99), line_sum, {"a": [60] * 99})
        self.gives(Share(2, 2 ** 200), line_sum, {"a": [2] * 200, "b": [2] * 200})
        self.gives(Share(8, 5), line_sum, {name: [5] for name in "abcdefgh"})
        self.gives(Share(1, 240), line_sum, {"a": [240]})

    def test_trees(self):
        for tree in SMALL_TREES:
            plan = ForkPlan(tree)
            self.gives(Share(1), line_sum, {name: [2] * len(plan.cells_of(name)) for name in plan.names})

    def test_order_of_the_writers_has_no_meaning(self):
        for sizes in product([[], [2], [3, 4]], repeat=3):
            first = dict(zip("abc", sizes))
            self.gives(line_sum(first), line_sum, dict(reversed(first.items())))
