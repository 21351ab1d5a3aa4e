"""Point 41, and point 3 for ratchet plans."""

from forkflags.errors import InvalidSizes, InvalidState, InvalidTown, SumTooGreat, UnknownHall, UnknownWriter
from forkflags.ratchets import RatchetPlan
from forkflags.shares import Share
from forkflags.townplan import TownPlan
from tests.helpers import Case, all_states
from tests.test_dials import NO_SIZES
from tests.test_plans import NO_STATES
from tests.test_townplan import NO_WRITERS, SIZES, SMALL
from tests.test_towns import NO_TOWNS, TOWN, plain_halls

RINGS = {"a": 4, "b": 8, "c": 2}


def some_rings(sizes, step):
    """Return rings that are small multiples of the sizes."""
    return {name: size * (1 + (at + step) % 3) for at, (name, size) in enumerate(sorted(sizes.items()))}


# The plans whose states are few also with greater rings.
FEW = [(town, sizes) for town, sizes in SMALL if len(sizes) < 4]


class ExamplesTest(Case):

    def test_example(self):
        plan = RatchetPlan(TOWN, SIZES, RINGS)
        self.gives_new([(1, 7)], plan.turns, (0, 6, 1), "b")
        self.gives_new([], plan.turns, (0, 7, 1), "b")
        self.gives(3, plan.forward_steps, (0, 0, 1), "b")


class MakingTest(Case):

    def test_attributes(self):
        for town, sizes in SMALL:
            rings = some_rings(sizes, 1)
            plan = RatchetPlan(town, sizes, rings)
            names = sorted(sizes)
            self.assertIsInstance(plan, TownPlan)
            self.assertEqual([plan.town, plan.names], [town, names])
            self.assertEqual(plan.cells, [(name, 0) for name in names])
            self.assertEqual(plan.sizes, [rings[name] for name in names])
            self.gives((0,) * len(names), plan.start)
            self.assertIs(names[0] in plan, True)

    def test_arguments_stay_and_are_copied(self):
        sizes = {"c": 2, "b": 4, "a": 4}
        rings = {"b": 8, "a": 4, "c": 2}
        plan = RatchetPlan(TOWN, sizes, rings)
        self.assertEqual([sizes, rings], [SIZES, RINGS])
        self.assertEqual([list(sizes), list(rings)], [list("cba"), list("bac")])
        other = RatchetPlan(TOWN, SIZES, RINGS)
        sizes.clear()
        rings["a"] = 8
        del rings["b"]
        self.assertEqual(plan.sizes, [4, 8, 2])
        for state in all_states([4, 8, 2]):
            for writer in "abc":
                self.assertEqual(plan.turns(state, writer), other.turns(state, writer))
                self.assertEqual(plan.sight(state, writer), other.sight(state, writer))
            self.assertEqual(plan.told(state), other.told(state))

    def test_other_keys_are_ignored(self):
        plan = RatchetPlan(TOWN, {**SIZES, "d": 0}, {**RINGS, "d": 7, "A": None, 5: 5})
        self.assertEqual([plan.names, plan.sizes], [list("abc"), [4, 8, 2]])

    def test_errors_of_town_plans_come_first(self):
        for town in NO_TOWNS:
            self.fails(InvalidTown, {}, RatchetPlan, town, {}, {})
        for size in NO_SIZES:
            self.fails(InvalidSizes, {"writer": "c"}, RatchetPlan, TOWN, {**SIZES, "c": size}, {})
        self.fails(InvalidSizes, {"writer": "b"}, RatchetPlan, TOWN, {"a": 1}, {})
        self.fails(SumTooGreat, {"total": Share(7, 6)}, RatchetPlan, TOWN, {"a": 3, "b": 4, "c": 1}, {})

    def test_wrong_rings(self):
        for ring in [0, -4, 1, 2, 3, 5, 6, 239, 241, 244, 480, 10 ** 30, None, True, False, "4", 4.0, [4], (4,)]:
            self.fails(InvalidSizes, {"writer": "a"}, RatchetPlan, TOWN, SIZES, {**RINGS, "a": ring})
            self.fails(InvalidSizes, {"writer": "b"}, RatchetPlan, TOWN, SIZES, {"c": 3, "b": ring, "a": 4})
        for ring in [True, False, 241]:
            self.fails(InvalidSizes, {"writer": "a"}, RatchetPlan, ("a",), {"a": 1}, {"a": ring})
        self.fails(InvalidSizes, {"writer": "a"}, RatchetPlan, TOWN, SIZES, {})
        self.fails(InvalidSizes, {"writer": "c"}, RatchetPlan, TOWN, SIZES, {"a": 8, "b": 4})
        self.fails(InvalidSizes, {"writer": "a"}, RatchetPlan, TOWN, SIZES, {"b": 3, "c": 3})

    def test_right_rings(self):
        for ring in [4, 8, 12, 120, 236, 240]:
            self.assertEqual(RatchetPlan(TOWN, SIZES, {**RINGS, "a": ring}).sizes, [ring, 8, 2])
        for ring in [1, 2, 239, 240]:
            self.assertEqual(RatchetPlan(("a",), {"a": 1}, {"a": ring}).sizes, [ring])

    def test_wrong_states_writers_and_halls(self):
        plan = RatchetPlan((("a", "b"), ("c", "d", "e")), {name: 10 for name in "abcde"}, {name: 20 for name in "abcde"})
        for state in [state for state in NO_STATES if state != (2, 0, 0, 0, 0)] + [(20, 0, 0, 0, 0), (0, 0, 0, 0, 20)]:
            self.fails(InvalidState, {}, plan.told, state)
            for method in [plan.board, plan.sight, plan.turns, plan.forward_steps, plan.updated]:
                self.fails(InvalidState, {}, method, state, "x")
        for hall in ["2", "00", "a", None, 0, ["0"], {}, ()]:
            self.fails(UnknownHall, {"hall": hall}, plan.board, (19,) * 5, hall)
        for writer in NO_WRITERS:
            for method in [plan.sight, plan.turns, plan.forward_steps, plan.updated]:
                self.fails(UnknownWriter, {"writer": writer}, method, (19,) * 5, writer)


class ReadingTest(Case):

    def test_reduced_state_is_read(self):
        for town, sizes in FEW:
            for step in [0, 1, 2]:
                plan = RatchetPlan(town, sizes, some_rings(sizes, step))
                base = TownPlan(town, sizes)
                for state in all_states(plan.sizes):
                    reduced = tuple([mark % size for mark, size in zip(state, base.sizes)])
                    self.assertEqual(plan.told(state), base.told(reduced))
                    for hall in plain_halls(town):
                        self.assertEqual(plan.board(state, hall), base.board(reduced, hall))
                    for writer in plan.names:
                        self.assertEqual(plan.sight(state, writer), base.sight(reduced, writer))

    def test_rings_equal_to_the_sizes(self):
        for town, sizes in SMALL:
            plan = RatchetPlan(town, sizes, sizes)
            base = TownPlan(town, sizes)
            states = all_states(plan.sizes)
            for state in states[::max(1, len(states) // 200)]:
                for writer in plan.names:
                    self.gives_new(base.turns(state, writer), plan.turns, state, writer)

    def test_results_stay(self):
        plan = RatchetPlan(TOWN, SIZES, RINGS)
        for state in all_states(plan.sizes):
            for writer in "abc":
                self.gives_new(plan.turns(state, writer), plan.turns, state, writer)
                self.gives(plan.sight(state, writer), plan.sight, state, writer)
                self.gives(plan.forward_steps(state, writer), plan.forward_steps, state, writer)


class UpdateTest(Case):

    def update_is_right(self, plan, base, state, writer):
        """Ask for points 3 and 41 in one state, and return the number of steps."""
        reduced = tuple([mark % size for mark, size in zip(state, base.sizes)])
        turns = plan.turns(state, writer)
        wanted = base.turns(reduced, writer)
        self.assertEqual(turns == [], plan.told(state) == writer)
        self.assertEqual(len(turns), len(wanted))
        if not turns:
            self.assertEqual(plan.forward_steps(state, writer), 0)
            self.assertEqual(plan.updated(state, writer), state)
            return 0
        ((index, mark),) = wanted
        now = state[index]
        steps = 0
        while steps == 0 or now % base.sizes[index] != mark:
            now = (now + 1) % plan.sizes[index]
            steps += 1
        self.assertEqual(turns, [(index, now)])
        self.assertEqual(plan.forward_steps(state, writer), steps)
        self.assertTrue(1 <= steps <= base.sizes[index] - 1)
        after = state[:index] + (now,) + state[index + 1:]
        self.assertEqual(plan.updated(state, writer), after)
        self.assertEqual(plan.told(after), writer)
        return steps

    def test_all_states(self):
        for town, sizes in FEW:
            for step in [0, 1, 2]:
                plan = RatchetPlan(town, sizes, some_rings(sizes, step))
                base = TownPlan(town, sizes)
                steps_of_sight = {}
                for state in all_states(plan.sizes):
                    for writer in plan.names:
                        steps = self.update_is_right(plan, base, state, writer)
                        seen = (writer, plan.sight(state, writer))
                        self.assertEqual(steps_of_sight.setdefault(seen, steps), steps)

    def test_from_the_last_mark_to_mark_0(self):
        plan = RatchetPlan(TOWN, SIZES, RINGS)
        for state, turn in [
            ((0, 4, 1), (1, 7)), ((1, 7, 0), (1, 1)), ((2, 5, 0), (1, 0)), ((2, 1, 0), (1, 4)), ((3, 5, 0), (1, 7)),
        ]:
            self.gives_new([turn], plan.turns, state, "b")
            self.gives((turn[1] - state[1]) % 8, plan.forward_steps, state, "b")
        plan = RatchetPlan(("a", "b"), {"a": 2, "b": 2}, {"a": 2, "b": 240})
        self.gives_new([(1, 0)], plan.turns, (1, 239), "b")
        self.gives(1, plan.forward_steps, (1, 239), "b")

    def test_equal_sights_and_different_marks(self):
        plan = RatchetPlan(TOWN, SIZES, {"a": 8, "b": 240, "c": 2})
        for mark in range(0, 240, 4):
            self.gives(((0, 0), (1,)), plan.sight, (0, mark, 1), "b")
            self.gives(3, plan.forward_steps, (0, mark, 1), "b")
            self.gives_new([(1, mark + 3)], plan.turns, (0, mark, 1), "b")

    def test_rings_of_240(self):
        sizes = {"a": 3, "b": 6, "c": 5}
        plan = RatchetPlan(TOWN, sizes, {"a": 240, "b": 240, "c": 240})
        base = TownPlan(TOWN, sizes)
        self.assertEqual(plan.sizes, [240] * 3)
        now = (239, 238, 237)
        for step in range(300):
            writer = "abc"[step * step % 7 % 3]
            for other in "abc":
                self.update_is_right(plan, base, now, other)
            now = plan.updated(now, writer)
            self.gives(writer, plan.told, now)
