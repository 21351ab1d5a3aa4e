"""Points 46 and 47: what cut updates can leave."""

from forkflags.errors import InvalidState
from forkflags.forkplan import ForkPlan
from forkflags.history import run
from forkflags.partial import needed_cells
from forkflags.routes import quiet_count, quiet_route, route
from forkflags.trees import forks_of, names_beneath
from tests.helpers import LETTERS, Case, all_shapes, all_states, comb_tree
from tests.test_forkplan import TREE, plain_told
from tests.test_history import drawn
from tests.test_plans import NO_STATES

COMB = comb_tree(LETTERS[:12])
FOUR = [*all_shapes(list("badc")), (("d", "a"), ("c", "b"))]
EVEN = ((("a", "b"), ("c", ("d", "e"))), ((("f", "g"), ("h", "i")), ("j", ("k", "l"))))


def bound(tree):
    """Return the greatest number of events that a route may have."""
    return sum([
        2 * max(len(names_beneath(tree, fork, 0)), len(names_beneath(tree, fork, 1))) + 1 for fork in forks_of(tree)
    ])


def quiet_states(plan, state):
    """Return the set of the states that cut events can lead to, by trying all of them."""
    found, waiting = {state}, [state]
    while waiting:
        now = waiting.pop()
        for writer in plan.names:
            for done in range(len(plan.turns(now, writer))):
                after = plan.updated(now, writer, done)
                if after not in found:
                    found.add(after)
                    waiting.append(after)
    return found


class RouteCase(Case):

    def route_is_right(self, plan, start, goal, events):
        """Ask whether these events are a route."""
        self.assertIs(events.__class__, list)
        self.assertEqual(run(plan, start, events), goal)
        self.assertLessEqual(len(events), bound(plan.tree))
        now = start
        for writer, done in events:
            turns = plan.turns(now, writer)
            self.assertGreater(len(turns) if done is None else done, 0)
            now = plan.updated(now, writer, done)

    def quiet_is_right(self, plan, start, goal, events):
        """Ask whether these events are a route of cut events that leaves the told writer."""
        self.route_is_right(plan, start, goal, events)
        told = plain_told(plan.tree, start)
        now = start
        for writer, done in events:
            self.assertIsNotNone(done)
            self.assertLess(done, len(plan.turns(now, writer)))
            now = plan.updated(now, writer, done)
            self.assertEqual(plain_told(plan.tree, now), told)


class RouteTest(RouteCase):

    def test_all_pairs(self):
        for tree in ["a", ("b", "a"), TREE, ("b", ("c", "a"))]:
            plan = ForkPlan(tree)
            for start in all_states(plan.sizes):
                for goal in all_states(plan.sizes):
                    self.route_is_right(plan, start, goal, route(plan, start, goal))

    def test_four_writers(self):
        for tree in FOUR:
            plan = ForkPlan(tree)
            states = all_states(plan.sizes)
            for number, start in enumerate(states[::3]):
                draw = drawn(number)
                for goal in [states[draw(len(states))] for _ in range(6)] + [states[0], states[-1]]:
                    self.route_is_right(plan, start, goal, route(plan, start, goal))

    def test_twelve_writers(self):
        for tree in [COMB, EVEN]:
            plan = ForkPlan(tree)
            many = len(plan.sizes)
            states = [(0,) * many, (1,) * many, tuple([index % 2 for index in range(many)])]
            states += [tuple([index // 3 % 2 for index in range(many)]), plan.updated(plan.start(), "l", 2)]
            draw = drawn(5)
            states += [tuple([draw(2) for _ in range(many)]) for _ in range(3)]
            for start in states:
                for goal in states:
                    self.route_is_right(plan, start, goal, route(plan, start, goal))

    def test_equal_states(self):
        for tree in ["a", ("a", "b"), TREE, COMB]:
            plan = ForkPlan(tree)
            state = plan.updated(plan.start(), plan.names[-1])
            self.route_is_right(plan, state, state, route(plan, state, state))

    def test_one_writer(self):
        self.gives_new([], route, ForkPlan("a"), (), ())

    def test_results_stay(self):
        plan = ForkPlan(TREE)
        for start, goal in [((0,) * 5, (1,) * 5), ((0, 1, 1, 0, 1), (1, 1, 0, 0, 1)), ((0,) * 5, (0, 0, 0, 0, 1))]:
            self.gives_new(route(plan, start, goal), route, plan, start, goal)

    def test_wrong_states(self):
        plan = ForkPlan(TREE)
        for state in NO_STATES:
            self.fails(InvalidState, {}, route, plan, state, plan.start())
            self.fails(InvalidState, {}, route, plan, plan.start(), state)
            self.fails(InvalidState, {}, route, plan, state, state)
        for start, goal in [((0,), ()), ((), (0,)), ((0,), (0,)), ([], ()), ((), []), (None, ())]:
            self.fails(InvalidState, {}, route, ForkPlan("a"), start, goal)
            self.fails(InvalidState, {}, quiet_route, ForkPlan("a"), start, goal)


class QuietRouteTest(RouteCase):

    def pair_is_right(self, plan, start, goal):
        events = quiet_route(plan, start, goal)
        if all([start[index] == goal[index] for index in needed_cells(plan, start)]):
            self.assertIsNotNone(events)
            self.quiet_is_right(plan, start, goal, events)
        else:
            self.assertIsNone(events)

    def test_all_pairs(self):
        for tree in ["a", ("b", "a"), TREE, ("b", ("c", "a"))]:
            plan = ForkPlan(tree)
            for start in all_states(plan.sizes):
                found = quiet_states(plan, start)
                for goal in all_states(plan.sizes):
                    self.pair_is_right(plan, start, goal)
                    self.assertEqual(quiet_route(plan, start, goal) is not None, goal in found)

    def test_four_writers(self):
        for tree in FOUR:
            plan = ForkPlan(tree)
            states = all_states(plan.sizes)
            for number, start in enumerate(states[::3]):
                draw = drawn(number)
                needed = needed_cells(plan, start)
                for _ in range(5):
                    goal = tuple([mark if index in needed else draw(2) for index, mark in enumerate(start)])
                    self.pair_is_right(plan, start, goal)
                    index = draw(len(start))
                    self.pair_is_right(plan, start, goal[:index] + (1 - goal[index],) + goal[index + 1:])

    def test_goal_that_differs_in_a_needed_cell(self):
        plan = ForkPlan(TREE)
        for start in all_states(plan.sizes):
            needed = needed_cells(plan, start)
            for index in range(5):
                goal = start[:index] + (1 - start[index],) + start[index + 1:]
                events = quiet_route(plan, start, goal)
                self.assertEqual(events is None, index in needed)

    def test_twelve_writers(self):
        for tree in [COMB, EVEN]:
            plan = ForkPlan(tree)
            for start in [plan.start(), plan.updated(plan.start(), "f"), plan.updated(plan.start(), "l", 3)]:
                needed = needed_cells(plan, start)
                draw = drawn(len(needed))
                for _ in range(4):
                    goal = tuple([mark if index in needed else draw(2) for index, mark in enumerate(start)])
                    self.pair_is_right(plan, start, goal)
                goal = tuple([mark if index in needed else 1 - mark for index, mark in enumerate(start)])
                self.pair_is_right(plan, start, goal)
                for index in [needed[0], needed[-1]]:
                    self.gives(None, quiet_route, plan, start, goal[:index] + (1 - goal[index],) + goal[index + 1:])

    def test_equal_states(self):
        for tree in ["a", ("a", "b"), TREE, COMB]:
            plan = ForkPlan(tree)
            state = plan.updated(plan.start(), plan.names[-1])
            self.quiet_is_right(plan, state, state, quiet_route(plan, state, state))
        self.gives_new([], quiet_route, ForkPlan("a"), (), ())

    def test_results_stay(self):
        plan = ForkPlan(TREE)
        start = (0, 0, 0, 0, 1)
        self.gives_new(quiet_route(plan, start, (0, 1, 0, 0, 1)), quiet_route, plan, start, (0, 1, 0, 0, 1))
        self.gives(None, quiet_route, plan, start, (0, 0, 0, 0, 0))

    def test_wrong_states(self):
        plan = ForkPlan(TREE)
        for state in NO_STATES:
            self.fails(InvalidState, {}, quiet_route, plan, state, plan.start())
            self.fails(InvalidState, {}, quiet_route, plan, plan.start(), state)
            self.fails(InvalidState, {}, quiet_route, plan, (0, 0, 0, 0, 1), state)


class QuietCountTest(Case):

    def test_small_plans(self):
        for tree in ["a", ("b", "a"), TREE, ("b", ("c", "a"))]:
            plan = ForkPlan(tree)
            for state in all_states(plan.sizes):
                self.gives(len(quiet_states(plan, state)), quiet_count, plan, state)

    def test_four_writers(self):
        for tree in FOUR[1:4]:
            plan = ForkPlan(tree)
            for state in all_states(plan.sizes)[::37]:
                self.gives(len(quiet_states(plan, state)), quiet_count, plan, state)

    def test_twelve_writers(self):
        plan = ForkPlan(COMB)
        self.gives(2 ** 65, quiet_count, plan, plan.start())
        self.gives(1, quiet_count, plan, plan.updated(plan.start(), "l"))
        self.gives(2 ** 54, quiet_count, plan, plan.updated(plan.start(), "b"))

    def test_one_and_two_writers(self):
        self.gives(1, quiet_count, ForkPlan("a"), ())
        for state in all_states([2, 2]):
            self.gives(1, quiet_count, ForkPlan(("a", "b")), state)

    def test_wrong_states(self):
        for state in NO_STATES:
            self.fails(InvalidState, {}, quiet_count, ForkPlan(TREE), state)
