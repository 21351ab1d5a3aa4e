"""Points 62 and 63: faults."""

from itertools import product

from forkflags.errors import InvalidState, TooMany
from forkflags.faults import first_fault, is_fault, reachable
from forkflags.forkplan import ForkPlan
from forkflags.ratchets import RatchetPlan
from forkflags.ruled import RuledTable, safe_rules
from forkflags.safety import safe_states
from forkflags.tables import ReadingTable
from forkflags.townplan import TownPlan
from tests.helpers import LETTERS, Case, all_states, comb_tree
from tests.test_forkplan import TREE
from tests.test_history import NO_WRITERS, drawn
from tests.test_plans import NO_STATES
from tests.test_safety import TINY, small_plans, stairs
from tests.test_tables import drawn_readings, sizes_of

COMB = comb_tree(LETTERS[:12])
EXAMPLE = RuledTable({"a": [2], "b": [2]}, ["a", "b", "b", "a"], {(0, "b"): [(1, 1)]})


def drawn_table(cells, number):
    """Return a table with drawn readings and drawn rules of at most three turns."""
    draw = drawn(number * 31)
    sizes = sizes_of(cells)
    owners = [name for name in sorted(cells) for _ in cells[name]]
    rules = {}
    for at in range(len(all_states(sizes))):
        for name in sorted(cells):
            own = [index for index, owner in enumerate(owners) if owner == name]
            many = draw(4) if own else 0
            if draw(5):
                indexes = [own[draw(len(own))] for _ in range(many)]
                rules[(at, name)] = [(index, draw(sizes[index])) for index in indexes]
    readings = drawn_readings(cells, number, sorted(cells) if number % 3 else None)
    return RuledTable(cells, readings, rules)


def near_tables():
    """Return tables that are safe but for one or two readings, with the rules of the safe ones."""
    tables = []
    for cells, readings in [
        ({"a": [2], "b": [2]}, list("abba")),
        ({"a": [2], "b": [2, 2], "c": [2, 2]}, [
            "a" if (p + q + r) % 2 == 0 else "bc"[(s + t) % 2] for p, q, s, r, t in all_states([2] * 5)
        ]),
        ({name: [3] for name in "abc"}, ["abc"[sum(state) % 3] for state in all_states([3] * 3)]),
    ]:
        ruled = safe_rules(ReadingTable(cells, readings))
        states = all_states(sizes_of(cells))
        rules = {
            (at, name): ruled.turns(state, name)
            for at, state in enumerate(states) for name in sorted(cells) if readings[at] != name
        }
        for number in range(6):
            draw = drawn(number)
            wrong = list(readings)
            wrong[1 + draw(len(wrong) - 1)] = "x" if number % 2 else sorted(cells)[draw(len(cells))]
            tables.append(RuledTable(cells, wrong, rules))
    return tables


def some_tables():
    cells = [*TINY, {"a": [2], "b": [2, 2], "c": [2]}, {"a": [5], "b": [5]}]
    return [EXAMPLE, *near_tables(), *[drawn_table(part, number) for part in cells for number in range(4)]]


def states_of_update(plan, state, writer):
    """List the states of an update, found without the program's own search."""
    states = [state]
    for index, mark in plan.turns(state, writer):
        now = states[-1]
        states.append(now[:index] + (mark,) + now[index + 1:])
    return states


def plain_fault(plan, state, writer):
    """Return the fault number of an update, or None, word by word as point 62 has it."""
    told = [plan.told(now) for now in states_of_update(plan, state, writer)]
    third = [number for number in range(1, len(told)) if told[number] not in (told[0], writer)]
    late = [len(told) - 1] if told[-1] != writer else []
    return min(third + late, default=None)


def layers(plan, start):
    """Return the sets of the states that 0, 1, 2, .. events can lead to, up to the last new one."""
    found = [{start}]
    while True:
        after = set(found[-1])
        for state in found[-1]:
            for writer in plan.names:
                after.update(states_of_update(plan, state, writer))
        if after == found[-1]:
            return found
        found.append(after)


def fault_length(plan, start):
    """Return the number of events of a shortest fault, or None."""
    for number, states in enumerate(layers(plan, start)):
        if any(plain_fault(plan, state, writer) is not None for state in states for writer in plan.names):
            return number + 1
    return None


def plain_is_fault(plan, start, events):
    """Tell whether a list of events is a fault, word by word as point 62 has it."""
    if not events:
        return False
    state = start
    for at, (writer, done) in enumerate(events):
        if writer not in plan.names:
            return False
        states = states_of_update(plan, state, writer)
        if at == len(events) - 1:
            return done is not None and done == plain_fault(plan, state, writer)
        if done is not None and done >= len(states):
            return False
        state = states[-1 if done is None else done]
    return None


class ExamplesTest(Case):

    def test_example(self):
        self.assertEqual(len(first_fault(EXAMPLE, (0, 0))), 2)
        self.gives(True, is_fault, EXAMPLE, (0, 0), [("b", 1), ("a", 0)])
        self.gives(False, is_fault, EXAMPLE, (0, 0), [("a", 0)])


class IsFaultTest(Case):

    def test_all_short_lists(self):
        seen = set()
        for cells in [{"a": [2], "b": [2]}, {"a": [], "b": [3]}, {"a": [2], "b": [2, 2]}]:
            for number in range(6):
                table = drawn_table(cells, number)
                for start in all_states(table.sizes)[::3]:
                    events = list(product(["a", "b", "z"], [0, 1, 2, 3, 4, None]))
                    rows = [[]] + [[event] for event in events] + [list(row) for row in product(events, repeat=2)]
                    for row in rows:
                        wanted = plain_is_fault(table, start, row)
                        self.assertIs(is_fault(table, start, row), wanted)
                        seen.add(wanted)
        self.assertEqual(seen, {True, False})

    def test_third_name(self):
        table = RuledTable({"a": [], "b": [4]}, list("axbb"), {(0, "b"): [(0, 1), (0, 3)], (1, "b"): [(0, 2)]})
        self.gives(True, is_fault, table, (0,), [("b", 1)])
        for done in [0, 2, 3, None]:
            self.gives(False, is_fault, table, (0,), [("b", done)])

    def test_third_name_at_the_end(self):
        table = RuledTable({"a": [], "b": [4]}, list("aaxb"), {(0, "b"): [(0, 1), (0, 2)], (1, "b"): [(0, 3), (0, 0)]})
        self.gives(True, is_fault, table, (0,), [("b", 2)])
        self.gives(False, is_fault, table, (0,), [("b", 1)])
        self.gives(True, is_fault, table, (1,), [("b", 2)])
        self.gives(False, is_fault, table, (1,), [("b", 1)])
        self.gives(False, is_fault, table, (0,), [("b", None)])

    def test_there_and_back(self):
        # The told name goes to the writer and back to the first name, and then to the writer for good.
        readings = list("abab")
        there = RuledTable({"a": [], "b": [4]}, readings, {(0, "b"): [(0, 1), (0, 2), (0, 3)]})
        for done in [0, 1, 2, 3, None]:
            self.gives(False, is_fault, there, (0,), [("b", done)])
        back = RuledTable({"a": [], "b": [4]}, readings, {(0, "b"): [(0, 1), (0, 2)]})
        self.gives(True, is_fault, back, (0,), [("b", 2)])
        for done in [0, 1, 3, None]:
            self.gives(False, is_fault, back, (0,), [("b", done)])

    def test_update_without_turns(self):
        table = RuledTable({"a": [2], "b": [2]}, list("abxa"), {(2, "a"): []})
        self.gives(True, is_fault, table, (0, 0), [("b", 0)])
        self.gives(False, is_fault, table, (0, 0), [("b", None)])
        self.gives(False, is_fault, table, (0, 0), [("b", 1)])
        # The writer is told already, so nothing is wrong.
        self.gives(False, is_fault, table, (0, 0), [("a", 0)])
        self.gives(False, is_fault, table, (0, 0), [("a", None)])
        self.gives(True, is_fault, table, (1, 0), [("a", 0)])
        self.gives(True, is_fault, table, (0, 0), [("b", 0), ("a", 0), ("b", None), ("b", 0)])

    def test_events_before_may_be_faulty(self):
        table = RuledTable({"a": [2], "b": [3]}, list("axbbxa"), {(0, "b"): [(1, 1), (1, 2)], (2, "a"): [(0, 1)]})
        self.gives(True, is_fault, table, (0, 0), [("b", 1)])
        self.gives(True, is_fault, table, (0, 0), [("b", 1), ("b", 0)])
        self.gives(True, is_fault, table, (0, 0), [("b", None), ("a", None), ("b", 0)])
        self.gives(True, is_fault, table, (0, 0), [("b", 2), ("a", 1), ("b", 0)])
        self.gives(False, is_fault, table, (0, 0), [("b", None), ("a", None)])
        self.gives(False, is_fault, table, (0, 0), [("b", 2), ("a", 1)])

    def test_events_that_cannot_be_made(self):
        for row in [
            [("b", 2), ("a", 0)], [("b", 1), ("a", 1), ("a", 0)], [("zz", 0), ("a", 0)], [("b", 1), ("zz", 0)],
            [("zz", 0)], [("b", 10 ** 30)], [("b", 1), ("zz", None), ("a", 0)], [],
        ]:
            self.gives(False, is_fault, EXAMPLE, (0, 0), row)
        for writer in NO_WRITERS:
            self.gives(False, is_fault, EXAMPLE, (0, 0), [("b", 1), (writer, 0)])
            self.gives(False, is_fault, EXAMPLE, (0, 0), [(writer, 0), ("b", 1), ("a", 0)])

    def test_plans_without_faults(self):
        plan = ForkPlan(COMB)
        for row in [[], [("l", 11)], [("l", 10)], [("l", 3), ("a", 0)], [("k", None), ("l", 1)], [("b", 12)]]:
            self.gives(False, is_fault, plan, plan.start(), row)

    def test_invalid_state(self):
        for state in NO_STATES:
            for row in [[], [("zz", 9)], [("a", 0)]]:
                self.fails(InvalidState, {}, is_fault, ForkPlan(TREE), state, row)
        self.fails(InvalidState, {}, is_fault, EXAMPLE, (0, 2), [])


class FirstFaultTest(Case):

    def test_shortest(self):
        lengths = set()
        for table in some_tables():
            for start in all_states(table.sizes)[::3]:
                events = first_fault(table, start)
                length = fault_length(table, start)
                lengths.add(length)
                self.assertEqual(None if events is None else len(events), length)
                if events is not None:
                    self.assertIs(events.__class__, list)
                    self.assertIs(is_fault(table, start, events), True)
                    self.assertIs(plain_is_fault(table, start, events), True)
        self.assertTrue(lengths.issuperset({None, 1, 2, 3}), lengths)

    def test_no_shorter_list(self):
        asked = 0
        for table in near_tables()[:6]:
            for start in all_states(table.sizes):
                events = first_fault(table, start)
                for many in range(0 if events is None else len(events)):
                    asked += 1
                    for row in product(product("ab", [0, 1, 2, None]), repeat=many):
                        self.assertIs(is_fault(table, start, list(row)), False)
        self.assertGreater(asked, 10)

    def test_result_is_new(self):
        given = first_fault(EXAMPLE, (0, 0))
        given.clear()
        self.assertEqual(first_fault(EXAMPLE, (0, 0)), first_fault(EXAMPLE, (0, 0)))
        self.assertEqual(len(first_fault(EXAMPLE, (0, 0))), 2)
        self.gives(first_fault(EXAMPLE, (0, 1)), first_fault, EXAMPLE, (0, 1))

    def test_update_without_turns(self):
        table = RuledTable({"a": [], "b": []}, ["a"], {})
        self.gives_new([("b", 0)], first_fault, table, ())
        self.gives(None, first_fault, RuledTable({"a": []}, ["a"], {}), ())

    def test_plans_have_no_fault(self):
        for plan in small_plans():
            states = all_states(plan.sizes)
            for start in states[::max(1, len(states) // 8)]:
                self.gives(None, first_fault, plan, start)

    def test_plans_have_no_fault_from_every_state(self):
        for plan in [
            ForkPlan(TREE), ForkPlan("a"), ForkPlan(("b", "a")), ForkPlan(("b", ("c", "a"))),
            TownPlan((("a", "b"), ("c",)), {"a": 4, "b": 4, "c": 2}),
            RatchetPlan(("b", "a"), {"a": 2, "b": 3}, {"a": 4, "b": 6}),
        ]:
            for start in all_states(plan.sizes):
                self.assertIsNone(first_fault(plan, start))

    def test_safe_rules_have_no_fault(self):
        found = 0
        for cells in [*TINY, {"a": [3], "b": [3, 2]}]:
            for number in range(4):
                table = ReadingTable(cells, drawn_readings(cells, number, sorted(cells)))
                ruled = safe_rules(table)
                for start in safe_states(table):
                    found += 1
                    self.gives(None, first_fault, ruled, start)
        self.assertGreater(found, 30)
        ruled = safe_rules(stairs(12))
        for start in [(0, 0), (0, 11), (6, 6), (11, 11)]:
            self.assertIsNone(first_fault(ruled, start))

    def test_safe_rules_from_other_states(self):
        table = ReadingTable({"a": [2], "b": [2]}, list("abxa"))
        self.assertEqual(safe_states(table), [])
        self.assertEqual(first_fault(safe_rules(table), (0, 0)), [("b", 0)])


class ReachableTest(Case):

    def test_closure(self):
        for table in some_tables():
            for start in all_states(table.sizes)[::4]:
                self.gives_new(sorted(layers(table, start)[-1]), reachable, table, start)

    def test_ratchets_and_towns(self):
        for plan in small_plans():
            if not isinstance(plan, ForkPlan):
                states = all_states(plan.sizes)
                for start in states[::max(1, len(states) // 3)]:
                    self.assertEqual(reachable(plan, start), sorted(layers(plan, start)[-1]))

    def test_fork_plans_reach_every_state(self):
        plans = [plan for plan in small_plans() if isinstance(plan, ForkPlan)]
        self.assertGreater(len(plans), 5)
        for plan in plans:
            states = all_states(plan.sizes)
            for start in states if len(states) < 40 else states[::61]:
                self.assertEqual(reachable(plan, start), states)

    def test_cut_updates(self):
        table = RuledTable({"a": [2], "b": [4]}, list("aaabbbbb"), {(0, "b"): [(1, 2), (1, 1), (1, 3)]})
        self.gives_new([(0, 0), (0, 1), (0, 2), (0, 3)], reachable, table, (0, 0))
        self.gives_new([(0, 1)], reachable, table, (0, 1))
        self.gives_new([(1, 2)], reachable, table, (1, 2))
        self.gives_new([()], reachable, ForkPlan("a"), ())


class ErrorsTest(Case):

    def test_invalid_state_comes_first(self):
        for function in [first_fault, reachable]:
            for state in NO_STATES:
                self.fails(InvalidState, {}, function, ForkPlan(TREE), state)
            for state in [(0,) * 76, [0] * 77, (0,) * 76 + (2,), None]:
                self.fails(InvalidState, {}, function, ForkPlan(COMB), state)
            self.fails(InvalidState, {}, function, EXAMPLE, (2, 0))

    def test_too_many_states(self):
        for plan in [
            ForkPlan(COMB), ForkPlan(comb_tree(LETTERS[:4])), TownPlan(tuple("abcdefgh"), dict.fromkeys("abcdefgh", 60)),
            RatchetPlan(("a", "b"), {"a": 2, "b": 2}, {"a": 130, "b": 2}),
        ]:
            for function in [first_fault, reachable]:
                self.fails(TooMany, {"most": 256}, function, plan, plan.start())
        plan = RatchetPlan(("a", "b"), {"a": 2, "b": 2}, {"a": 128, "b": 2})
        self.assertIsNone(first_fault(plan, plan.start()))
        self.assertEqual(len(reachable(plan, plan.start())), 256)
