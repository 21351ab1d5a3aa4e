"""Point 61: ruled tables."""

from forkflags.errors import InvalidName, InvalidSizes, InvalidState, InvalidTable, TooMany, UnknownWriter
from forkflags.faults import first_fault
from forkflags.plans import Plan
from forkflags.ratchets import RatchetPlan
from forkflags.ruled import RuledTable, safe_rules
from forkflags.safety import safe_states, safe_way
from forkflags.tables import ReadingTable, table_of
from tests.helpers import NO_NAMES, Case, all_states
from tests.test_history import NO_WRITERS
from tests.test_safety import TINY, small_plans, some_tables, stairs
from tests.test_tables import BAD_SIZES, MANY, Wide, drawn_readings

CELLS = {"b": [2, 3], "a": [2]}
READINGS = list("abxabbxxabab")


class RuledTableTest(Case):

    def test_attributes(self):
        table = RuledTable(CELLS, READINGS, {(0, "b"): [(1, 1)]})
        self.assertIsInstance(table, ReadingTable)
        self.assertIsInstance(table, Plan)
        self.assertEqual([table.names, table.sizes, table.readings], [["a", "b"], [2, 2, 3], READINGS])
        self.assertEqual(table.cells, [("a", 0), ("b", 0), ("b", 1)])
        plain = ReadingTable(CELLS, READINGS)
        for state in all_states([2, 2, 3]):
            self.assertEqual(table.told(state), plain.told(state))
            for writer in "ab":
                self.assertEqual(table.line_of(state, writer), plain.line_of(state, writer))

    def test_turns(self):
        rules = {(0, "b"): [(1, 1), (2, 2), (1, 0)], (2, "a"): [(0, 0)], (2, "b"): [], (11, "a"): [(0, 0), (0, 0)]}
        table = RuledTable(CELLS, READINGS, rules)
        for number, state in enumerate(all_states([2, 2, 3])):
            for writer in "ab":
                told = READINGS[number] == writer
                self.gives_new([] if told else rules.get((number, writer), []), table.turns, state, writer)

    def test_rule_of_the_told_writer_is_not_used(self):
        table = RuledTable({"a": [2], "b": [2]}, list("abba"), {(0, "a"): [(0, 1)], (1, "b"): [(1, 0), (1, 1)]})
        self.gives_new([], table.turns, (0, 0), "a")
        self.gives_new([], table.turns, (0, 1), "b")
        self.gives((0, 1), table.updated, (0, 1), "b")

    def test_updates(self):
        table = RuledTable({"a": [2], "b": [3]}, list("abxbab"), {(0, "b"): [(1, 2), (1, 1)], (4, "b"): [(1, 1)]})
        self.gives((0, 1), table.updated, (0, 0), "b")
        self.gives((0, 2), table.updated, (0, 0), "b", 1)
        self.gives((1, 1), table.updated, (1, 1), "b")
        self.gives((0, 2), table.updated, (0, 2), "a")

    def test_empty_rules(self):
        table = RuledTable({"a": [2], "b": [2]}, list("abba"), {})
        for state in all_states([2, 2]):
            for writer in "ab":
                self.gives_new([], table.turns, state, writer)
        table = RuledTable({"a": [2], "b": [2]}, list("abba"), {(0, "b"): [], (0, "a"): []})
        self.gives_new([], table.turns, (0, 0), "b")

    def test_twenty_turns(self):
        for many in [20, 21]:
            rule = [(1, 1 - at % 2) for at in range(many)]
            table = RuledTable({"a": [2], "b": [2]}, list("abba"), {(0, "b"): rule})
            self.gives_new(rule, table.turns, (0, 0), "b")

    def test_copies(self):
        cells, readings, rules = {"b": [2], "a": [2]}, list("abba"), {(0, "b"): [(1, 1)], (3, "b"): [(1, 0)]}
        table = RuledTable(cells, readings, rules)
        self.assertEqual([cells, readings], [{"b": [2], "a": [2]}, list("abba")])
        self.assertEqual(rules, {(0, "b"): [(1, 1)], (3, "b"): [(1, 0)]})
        cells["a"].append(2)
        readings[0] = "b"
        rules[(0, "b")].append((0, 0))
        rules[(0, "b")][0] = (1, 0)
        del rules[(3, "b")]
        rules[(1, "a")] = [(0, 1)]
        self.gives_new([(1, 1)], table.turns, (0, 0), "b")
        self.gives_new([(1, 0)], table.turns, (1, 1), "b")
        self.gives_new([], table.turns, (0, 1), "a")

    def test_errors_of_turns(self):
        table = RuledTable({"a": [2], "b": [2]}, list("abba"), {(0, "b"): [(1, 1)]})
        for state in [[0, 0], (0,), (0, 0, 0), (2, 0), (0, -1), (True, 0), (0, None), None, 0, "00"]:
            self.fails(InvalidState, {}, table.turns, state, "zz")
            self.fails(InvalidState, {}, table.told, state)
        for writer in NO_WRITERS:
            self.fails(UnknownWriter, {"writer": writer}, table.turns, (0, 0), writer)


class RuledErrorsTest(Case):

    def test_errors_of_reading_tables_come_first(self):
        wrong = {(99, "zz"): [(9, 9)], 5: []}
        self.fails(InvalidName, {"name": "A"}, RuledTable, {"A": [0], "b": [0]}, [], wrong)
        for size in BAD_SIZES:
            self.fails(InvalidSizes, {"writer": "b"}, RuledTable, {"b": [size], "c": [0]}, [], wrong)
        for cells in MANY:
            self.fails(TooMany, {"most": 256}, RuledTable, cells, [], wrong)
        self.fails(InvalidTable, {}, RuledTable, {"a": [2]}, ["a"], wrong)
        for name in NO_NAMES:
            self.fails(InvalidName, {"name": name}, RuledTable, {"a": [2]}, [name, "A"], wrong)

    def test_keys(self):
        for key in [
            (6, "a"), (-1, "a"), (10 ** 30, "a"), (0, "c"), (0, "x"), (0, ""), (0, None), (None, "a"), ("0", "a"),
            ("a", 0), (0,), (0, "a", 0), (), 0, "a", None, ((0, 0), "a"), (0, ("a",)), (0, 0),
        ]:
            for rule in [[], [(0, 0)]]:
                self.fails(InvalidTable, {}, RuledTable, {"a": [2], "b": [3]}, list("abxbab"), {key: rule})

    def test_turns(self):
        for writer, turn in [
            ("a", (1, 0)), ("b", (0, 0)), ("a", (2, 0)), ("a", (-1, 0)), ("b", (-1, 0)), ("a", (0, 2)), ("b", (1, 3)),
            ("a", (0, -1)), ("a", (10 ** 30, 0)), ("a", (0, 10 ** 30)), ("a", (None, 0)), ("a", (0, None)),
        ]:
            # The rules are for states in which the writer is told, and in which it is not.
            for number in range(6):
                for rule in [[turn], [turn, (0, 0), (1, 0)], [(0 if writer == "a" else 1, 0), turn]]:
                    rules = {(0, "b"): [(1, 1)], (number, writer): rule}
                    self.fails(InvalidTable, {}, RuledTable, {"a": [2], "b": [3]}, list("abxbab"), rules)

    def test_writer_without_cells(self):
        self.fails(InvalidTable, {}, RuledTable, {"a": [], "b": [2]}, list("ab"), {(1, "a"): [(0, 0)]})
        self.assertEqual(RuledTable({"a": [], "b": [2]}, list("ab"), {(1, "a"): []}).turns((1,), "a"), [])


class SafeRulesTest(Case):

    def asked(self, table):
        """Ask for a shortest safe way as the rule of each safe state, and for no other rule."""
        ruled = safe_rules(table)
        self.assertIs(ruled.__class__, RuledTable)
        for before, after in [
            (table.names, ruled.names), (table.cells, ruled.cells), (table.sizes, ruled.sizes),
            (table.readings, ruled.readings),
        ]:
            self.assertEqual(before, after)
            self.assertIsNot(before, after)
        found = safe_states(table)
        step = max(1, len(table.readings) // 15)
        for number, state in enumerate(all_states(table.sizes)):
            for writer in table.names:
                turns = ruled.turns(state, writer)
                if state not in found:
                    self.assertEqual(turns, [])
                    continue
                if number % step == 0:
                    self.assertEqual(len(turns), len(safe_way(table, found, state, writer)))
                told, now = table.told(state), state
                for at, (index, mark) in enumerate(turns):
                    self.assertEqual(table.cells[index][0], writer)
                    self.assertNotEqual(now[index], mark)
                    now = table.turned(now, [(index, mark)])
                    self.assertIn(now, found)
                    self.assertEqual(table.told(now), told if at < len(turns) - 1 else writer)
                self.assertEqual(table.told(now), writer)
        return ruled

    def test_tables(self):
        for table in some_tables():
            kept = [list(table.names), list(table.cells), list(table.sizes), list(table.readings)]
            self.asked(table)
            self.assertEqual([table.names, table.cells, table.sizes, table.readings], kept)

    def test_ruled_tables(self):
        for cells in TINY:
            table = ReadingTable(cells, drawn_readings(cells, 7))
            ruled = safe_rules(safe_rules(table))
            for state in all_states(table.sizes):
                for writer in table.names:
                    self.assertEqual(ruled.turns(state, writer), safe_rules(table).turns(state, writer))
        old = RuledTable({"a": [2], "b": [2]}, list("abba"), {(0, "b"): [(1, 0), (1, 1)]})
        self.assertEqual(safe_rules(old).turns((0, 0), "b"), [(1, 1)])
        self.assertEqual(old.turns((0, 0), "b"), [(1, 0), (1, 1)])

    def test_plans(self):
        for plan in small_plans():
            self.asked(table_of(plan))

    def test_more_than_twenty_turns(self):
        ruled = self.asked(stairs(12))
        self.assertEqual(len(ruled.turns((0, 0), "b")), 22)
        self.assertEqual(len(ruled.turns((3, 4), "b")), 15)
        self.assertIsNone(first_fault(ruled, (0, 0)))

    def test_greater_than_the_constructor_allows(self):
        self.asked(table_of(RatchetPlan(("a",), {"a": 2}, {"a": 240})))
        self.asked(table_of(RatchetPlan(("a", "b"), {"a": 2, "b": 2}, {"a": 120, "b": 2})))
        self.asked(table_of(Wide()))

    def test_changes_of_turns(self):
        table = safe_rules(ReadingTable({"a": [2], "b": [2]}, list("abba")))
        self.gives_new([(1, 1)], table.turns, (0, 0), "b")
        self.gives_new([], table.turns, (0, 0), "a")
        for state in [(0,), None, (2, 0)]:
            self.fails(InvalidState, {}, table.turns, state, "zz")
        self.fails(UnknownWriter, {"writer": "x"}, table.turns, (0, 0), "x")
