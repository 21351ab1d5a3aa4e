"""Points 1 to 4, and what holds of the program as a whole."""

from itertools import product

from forkflags.budgets import fit_tree, flag_sum
from forkflags.desk import Desk
from forkflags.errors import SumTooGreat
from forkflags.forkplan import ForkPlan
from forkflags.history import History
from forkflags.moves import admitted, dismissed, joined_plans, renamed
from forkflags.ruled import RuledTable
from forkflags.safety import safe_states
from forkflags.scans import excuse, scan
from forkflags.shares import Share
from forkflags.store import Store
from forkflags.tables import ReadingTable, line_sum, table_of
from forkflags.townplan import TownPlan
from forkflags.townsums import house_sum, town_fault, town_of_tree
from tests.helpers import Case, all_states
from tests.test_forkplan import SMALL_TREES, TREE
from tests.test_history import drawn, some_plans
from tests.test_tables import drawn_readings


def moved_plans():
    """List fork plans that come from other plans, with their states."""
    plan = ForkPlan(TREE)
    found = []
    for state in all_states(plan.sizes)[::3]:
        found.append(admitted(plan, state, "d", "b"))
        found.append(joined_plans(plan, state, ForkPlan(("y", "x")), (1, 0)))
        found.append(renamed(plan, state, "a", "z"))
        found.append(dismissed(plan, state, [name for name in "abc" if name != plan.told(state)][0]))
    return found


class PromiseTest(Case):

    def update_is_right(self, plan, state, writer):
        """Ask whether the told writer stays up to the last turn, by turns of cells of the writer alone."""
        told, now = plan.told(state), state
        turns = plan.turns(state, writer)
        self.assertEqual(turns == [], told == writer)
        for index, mark in turns:
            self.assertEqual(plan.cells[index][0], writer)
            self.assertEqual(plan.told(now), told)
            self.assertNotEqual(now[index], mark)
            now = now[:index] + (mark,) + now[index + 1:]
        self.assertEqual(plan.told(now), writer)

    def test_every_state_of_every_kind_of_plan(self):
        for plan in some_plans():
            states = all_states(plan.sizes)
            for state in states[::max(1, len(states) // 300)]:
                for writer in plan.names:
                    self.update_is_right(plan, state, writer)

    def test_plans_that_come_from_others(self):
        for plan, state in moved_plans():
            states = all_states(plan.sizes)
            for other in [state, *states[::max(1, len(states) // 20)]]:
                for writer in plan.names:
                    self.update_is_right(plan, other, writer)

    def test_after_any_cut_updates(self):
        for number, plan in enumerate(some_plans()):
            history, draw = History(plan), drawn(number)
            told = history.reading
            for _ in range(60):
                writer = plan.names[draw(len(plan.names))]
                many = len(plan.turns(history.state, writer))
                done = draw(many + 1)
                self.update_is_right(plan, history.state, writer)
                history.write(writer, done)
                # The same writer may begin again, and its new update is whole then.
                told = writer if done == many else told
                self.assertEqual(history.reading, told)

    def test_ruled_tables_need_not_keep_it(self):
        table = RuledTable({"a": [2], "b": [2]}, list("abba"), {})
        self.assertEqual([table.turns((0, 0), "b"), table.told(table.updated((0, 0), "b"))], [[], "a"])


class ExistenceTest(Case):

    def test_flags(self):
        for many in [1, 2, 3]:
            for flags in product(range(4), repeat=many):
                budgets = dict(zip("abc", flags))
                cells = {name: [2] * budgets[name] for name in budgets}
                total = flag_sum(budgets)
                self.assertEqual(total, line_sum(cells))
                if total.at_most(Share(1)):
                    plan = ForkPlan.fitted(budgets)
                    if len(plan.cells) <= 8:
                        self.assertEqual(safe_states(table_of(plan)), all_states(plan.sizes))
                else:
                    self.fails(SumTooGreat, {"total": total}, fit_tree, budgets)
                    for number in range(3):
                        if sum(flags) <= 8:
                            readings = drawn_readings(cells, number, sorted(cells))
                            self.assertEqual(safe_states(ReadingTable(cells, readings)), [])

    def test_all_tables_of_too_few_flags(self):
        for cells, names in [({"a": [2], "b": [2], "c": [2]}, "abc"), ({"a": [], "b": [2, 2]}, "ab")]:
            for readings in list(product(names, repeat=len(all_states([2] * sum(map(len, cells.values()))))))[::4]:
                self.assertEqual(safe_states(ReadingTable(cells, list(readings))), [])

    def test_dials_of_houses(self):
        built = 0
        for sizes in product([1, 2, 3, 4, 6], repeat=3):
            for town in [("a", "b", "c"), (("a", "b"), ("c",)), (("a",), ("b",), ("c",)), (("a",), (("b",), ("c",)))]:
                own = dict(zip("abc", sizes))
                fault = town_fault(town, own)
                if fault is None:
                    plan = TownPlan(town, own)
                    built += 1
                    self.assertEqual({plan.told(state) for state in all_states(plan.sizes)}, set("abc"))
                else:
                    self.assertEqual(house_sum(town, own, fault[0]), fault[1])
                    self.fails(SumTooGreat, {"total": fault[1]}, TownPlan, town, own)
        self.assertGreater(built, 40)

    def test_trees_are_towns(self):
        for tree in SMALL_TREES:
            town, sizes = town_of_tree(tree)
            self.assertIsNone(town_fault(town, sizes))
            plan, flags = TownPlan(town, sizes), ForkPlan(tree)
            self.assertEqual(plan.names, flags.names)
            row = [plan.names[draw] for draw in [0, -1, 0, -1, 0]]
            states = [plan.start(), flags.start()]
            for writer in row:
                states = [plan.updated(states[0], writer), flags.updated(states[1], writer)]
                self.assertEqual([plan.told(states[0]), flags.told(states[1])], [writer, writer])


class TogetherTest(Case):

    def test_scan_of_the_turns_of_a_store(self):
        # A reader that looks while records are written answers somebody who is told or writes meanwhile.
        for tree in SMALL_TREES:
            plan = ForkPlan(tree)
            store, draw, moments = Store(plan), drawn(5), [(plan.start(), None)]
            for at in range(12):
                writer = plan.names[draw(len(plan.names))]
                turns = plan.turns(store.state, writer)
                done = draw(len(turns) + 1)
                for turn in turns[:done]:
                    moments.append((plan.turned(moments[-1][0], [turn]), writer))
                store.write(writer, f"record {at}", store.step_count(writer, f"record {at}") - len(turns) + done)
                self.assertEqual(store.state, moments[-1][0])
            for first in range(len(moments)):
                answer, looks = scan(plan, moments, first=first, gaps=[draw(3) for _ in range(9)])
                last = looks[-1][1] if looks else first
                self.assertIsNotNone(excuse(plan, moments, first, last, answer))

    def test_equal_calls_on_equal_desks(self):
        lines = [
            "write b one", "cut c 4 two", "admit d a", "write d three", "dismiss c", "undo", "undo", "redo", "write a four",
            "cut b 0 x", "admit e d", "dismiss d",
        ]
        first, second = Desk(TREE), Desk(TREE)
        for line in lines:
            self.assertEqual(first.obey(line), second.obey(line))
        self.assertEqual(first.store.image(), second.store.image())
        self.assertEqual(Store.from_image(first.store.plan, first.store.image()).newest, ("a", "four"))
