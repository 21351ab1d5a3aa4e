"""Points 21 and 22: what all plans have in common."""

from unittest import mock

from forkflags.errors import InvalidState, TooManyTurns, UnknownWriter
from forkflags.forkplan import ForkPlan
from forkflags.plans import Plan
from tests.helpers import LETTERS, NO_NAMES, Case, all_states, comb_tree

TREE = (("c", "a"), "b")
NO_WRITERS = [value for value in NO_NAMES if not isinstance(value, str)] + ["d", "", "A", "ab", "ca"]
NO_STATES = [
    [0, 0, 0, 0, 0], "00000", None, 0, {}, (), (0,) * 4, (0,) * 6, (2, 0, 0, 0, 0), (0, 0, -1, 0, 0),
    (True, 0, 0, 0, 0), (0, 0, 0, 0, False), (0, 0, None, 0, 0), (0, "0", 0, 0, 0), (0, 0, 0, 1.0, 0), (0, 0, 0, 0, []),
]


class Dials(Plan):
    """A plan with cells of more than two marks: the writer whose dial is highest is told."""

    def __init__(self):
        super().__init__(["a", "b"], [("a", 0), ("b", 0), ("b", 1)], [3, 4, 2])

    def turns(self, state, writer):
        self.check_state(state)
        if writer != "b":
            raise UnknownWriter(writer)
        return [(1, 3), (2, 1), (1, 2)]


class PlanTest(Case):

    def setUp(self):
        self.plan = ForkPlan(TREE)

    def test_attributes(self):
        self.assertIsInstance(self.plan, Plan)
        self.assertEqual(self.plan.names, ["a", "b", "c"])
        self.assertEqual(self.plan.cells, [("a", 0), ("a", 1), ("b", 0), ("c", 0), ("c", 1)])
        self.assertEqual(self.plan.sizes, [2, 2, 2, 2, 2])
        for value in [self.plan.names, self.plan.cells, self.plan.sizes]:
            self.assertIs(value.__class__, list)

    def test_attributes_are_copies(self):
        rows = [["a"], [("a", 0)], [2]]
        plan = Plan(*rows)
        for row in rows:
            row.clear()
        self.assertEqual([plan.names, plan.cells, plan.sizes], [["a"], [("a", 0)], [2]])

    def test_start(self):
        self.gives((0, 0, 0, 0, 0), self.plan.start)
        self.gives((), ForkPlan("a").start)
        self.gives((0,) * 77, ForkPlan(comb_tree(LETTERS[:12])).start)
        self.gives((0, 0, 0), Dials().start)

    def test_check_state(self):
        for state in all_states([2] * 5):
            self.assertIsNone(self.plan.check_state(state))
        for state in all_states([3, 4, 2]):
            self.assertIsNone(Dials().check_state(state))
        self.assertIsNone(ForkPlan("a").check_state(()))

    def test_no_states(self):
        for state in NO_STATES:
            self.fails(InvalidState, {}, self.plan.check_state, state)
            self.fails(InvalidState, {}, self.plan.told, state)
            self.fails(InvalidState, {}, self.plan.turns, state, "zz")
            self.fails(InvalidState, {}, self.plan.turned, state, [])
            self.fails(InvalidState, {}, self.plan.updated, state, "zz", 99)
        self.fails(InvalidState, {}, ForkPlan("a").check_state, (0,))
        self.fails(InvalidState, {}, Dials().check_state, (3, 0, 0))
        self.fails(InvalidState, {}, Dials().check_state, (0, 0, 2))

    def test_cells_of(self):
        self.gives_new([0, 1], self.plan.cells_of, "a")
        self.gives_new([2], self.plan.cells_of, "b")
        self.gives_new([3, 4], self.plan.cells_of, "c")
        self.gives_new([], ForkPlan("a").cells_of, "a")

    def test_unknown_writers(self):
        for writer in NO_WRITERS:
            self.fails(UnknownWriter, {"writer": writer}, self.plan.cells_of, writer)
            self.fails(UnknownWriter, {"writer": writer}, self.plan.turns, self.plan.start(), writer)
            self.fails(UnknownWriter, {"writer": writer}, self.plan.updated, self.plan.start(), writer, 99)

    def test_contains(self):
        for writer in ["a", "b", "c"]:
            self.assertIs(writer in self.plan, True)
        for value in [*NO_WRITERS, ["a"], {"a": 1}, ["a", "b", "c"], ("a", 0), {}, [], mock.ANY]:
            self.assertIs(value in self.plan, False)
        self.assertIs("a" in ForkPlan("a"), True)
        self.assertIs("b" in ForkPlan("a"), False)


class TurnedTest(Case):

    def setUp(self):
        self.plan = ForkPlan(TREE)
        self.state = (0, 1, 0, 1, 1)

    def test_ordinary(self):
        for turns, wanted in [
            ([], self.state), ([(0, 1)], (1, 1, 0, 1, 1)), ([(0, 1), (4, 0)], (1, 1, 0, 1, 0)),
            ([(0, 1), (0, 0)], self.state), ([(0, 0), (1, 1)], self.state), ([(3, 0), (3, 1), (3, 0)], (0, 1, 0, 0, 1)),
        ]:
            self.gives(wanted, self.plan.turned, self.state, turns)

    def test_each_cell(self):
        for index in range(5):
            for mark in [0, 1]:
                wanted = self.state[:index] + (mark,) + self.state[index + 1:]
                self.gives(wanted, self.plan.turned, self.state, [(index, mark)])

    def test_sizes(self):
        self.gives((2, 3, 1), Dials().turned, (0, 0, 0), [(2, 1), (0, 2), (1, 3)])
        for turn in [(0, 3), (1, 4), (2, 2), (3, 0)]:
            self.fails(InvalidState, {}, Dials().turned, (0, 0, 0), [turn])

    def test_wrong_turns(self):
        for wrong in [
            (5, 0), (-1, 0), (10 ** 30, 1), (0, 2), (0, -1), (0, None), (0, True), (0, False), (True, 0), (None, 0),
            ("0", 0), (0, "0"), (0, [0]),
        ]:
            self.fails(InvalidState, {}, self.plan.turned, self.state, [wrong])
            self.fails(InvalidState, {}, self.plan.turned, self.state, [(1, 0), wrong, (0, 0)])
        self.fails(InvalidState, {}, ForkPlan("a").turned, (), [(0, 0)])

    def test_wrong_state_in_between(self):
        self.fails(InvalidState, {}, self.plan.turned, self.state, [(0, 2), (0, 1)])


class UpdatedTest(Case):

    def test_all_states(self):
        plan = ForkPlan(TREE)
        for state in all_states(plan.sizes):
            for writer in plan.names:
                turns = plan.turns(state, writer)
                self.gives(plan.turned(state, turns), plan.updated, state, writer)
                self.gives(plan.turned(state, turns), plan.updated, state, writer, None)
                for done in range(len(turns) + 1):
                    self.gives(plan.turned(state, turns[:done]), plan.updated, state, writer, done)
                    self.gives(plan.turned(state, turns[:done]), plan.updated, state, writer, done=done)
                for done in [len(turns) + 1, len(turns) + 2, 10 ** 30]:
                    self.fails(TooManyTurns, {"most": len(turns)}, plan.updated, state, writer, done)

    def test_other_plan(self):
        for done, wanted in [(0, (0, 0, 0)), (1, (0, 3, 0)), (2, (0, 3, 1)), (3, (0, 2, 1)), (None, (0, 2, 1))]:
            self.gives(wanted, Dials().updated, (0, 0, 0), "b", done)
        self.fails(TooManyTurns, {"most": 3}, Dials().updated, (0, 0, 0), "b", 4)
        self.fails(UnknownWriter, {"writer": "a"}, Dials().updated, (0, 0, 0), "a", 4)

    def test_one_writer(self):
        plan = ForkPlan("a")
        self.gives((), plan.updated, (), "a")
        self.gives((), plan.updated, (), "a", 0)
        self.fails(TooManyTurns, {"most": 0}, plan.updated, (), "a", 1)
