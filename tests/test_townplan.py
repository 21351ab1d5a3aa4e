"""Points 36 to 39, and point 3 for town plans."""

from itertools import product

from forkflags.errors import InvalidSizes, InvalidState, InvalidTown, SumTooGreat, UnknownHall, UnknownWriter
from forkflags.forkplan import ForkPlan
from forkflags.packing import pack, unpack
from forkflags.plans import Plan
from forkflags.shares import Share
from forkflags.townplan import TownPlan
from forkflags.townsums import town_of_tree
from tests.helpers import LETTERS, Case, all_shapes, all_states
from tests.test_dials import NO_SIZES, plain_pairs, plain_position
from tests.test_plans import NO_STATES
from tests.test_towns import NO_TOWNS, TOWN, deep_town, plain_halls, plain_houses, plain_ways

SIZES = {"a": 4, "b": 4, "c": 2}
# Towns and sizes of plans with few states.
SMALL = [
    (TOWN, SIZES),
    (TOWN, {"a": 3, "b": 6, "c": 5}),
    (("a",), {"a": 1}),
    (("zz",), {"zz": 3}),
    (("b", "a"), {"b": 2, "a": 2}),
    (("b", "a", "c"), {"a": 3, "b": 2, "c": 7}),
    ((("b",), ("a",)), {"a": 2, "b": 3}),
    ((("c",), ("b",), ("a",)), {"a": 3, "b": 4, "c": 3}),
    ((("d",), ("c", "a"), ("b",)), {"a": 6, "b": 3, "c": 6, "d": 4}),
    (((("a",), ("c",)), ("b",)), {"a": 4, "b": 2, "c": 5}),
    ((("b",), (("c",), ("d",))), {"b": 3, "c": 4, "d": 4}),
    (((("a",), ("c",)), (("d",), ("b",))), {"a": 4, "b": 5, "c": 4, "d": 4}),
    (((("b",), ("a",), ("d",)), ("c",)), {"a": 6, "b": 6, "c": 2, "d": 7}),
    (((("b", "e"), ("a",)), ("c",)), {"a": 4, "b": 6, "c": 2, "e": 12}),
]
NO_WRITERS = ["d0", "", "A", "x", "ab", None, 0, True, ["a"], {}, (), ("a",)]


class PlainTown:
    """A town plan that is read without the program, by listing all positions of each house."""

    def __init__(self, town, sizes):
        self.town, self.sizes = town, sizes
        self.names = sorted([name for house in plain_houses(town).values() for name in house])
        self.pairs = {}
        for house, names in plain_houses(town).items():
            self.pairs[house] = plain_pairs(
                {name: sizes[name] for name in names}, {name: [name] for name in names}, plain_ways(town, house),
            )

    def pair(self, state, house):
        names = sorted(plain_houses(self.town)[house])
        marks = [state[self.names.index(name)] for name in names]
        pairs = self.pairs[house]
        return pairs[plain_position({name: self.sizes[name] for name in names}, marks)] or pairs[0]

    def boards(self, state):
        """Return a dict from each hall to its board."""
        halls = plain_halls(self.town)
        boards = {hall: 0 for hall in halls}
        for house, names in plain_houses(self.town).items():
            name, copy = self.pair(state, house)
            boards[house] = names.index(name)
            above = [house[:level] for level in range(len(house))]
            counts = [len(halls[hall]) for hall in above]
            for hall, phase in zip(above, list(product(*map(range, counts)))[copy]):
                boards[hall] = (boards[hall] + phase) % len(halls[hall])
        return boards

    def told(self, state):
        boards = self.boards(state)
        hall = ""
        entry = self.town
        while not isinstance(entry, str):
            entry, hall = entry[boards[hall]], hall + str(boards[hall])
        return entry

    def house_of(self, writer):
        return [house for house, names in plain_houses(self.town).items() if writer in names][0]


class ExamplesTest(Case):

    def test_example(self):
        plan = TownPlan(TOWN, SIZES)
        self.gives_new([(2, 1)], plan.turns, (0, 0, 0), "c")
        self.gives("c", plan.told, (0, 0, 1))
        self.gives_new([(1, 3)], plan.turns, (0, 0, 1), "b")
        self.gives(((0, 0), (1,)), plan.sight, (0, 0, 1), "b")


class MakingTest(Case):

    def test_attributes(self):
        for town, sizes in SMALL:
            plan = TownPlan(town, sizes)
            names = sorted(sizes)
            self.assertIsInstance(plan, Plan)
            self.assertEqual(plan.town, town)
            self.assertEqual(plan.names, names)
            self.assertEqual(plan.cells, [(name, 0) for name in names])
            self.assertEqual(plan.sizes, [sizes[name] for name in names])
            self.gives((0,) * len(names), plan.start)
            for index, name in enumerate(names):
                self.gives_new([index], plan.cells_of, name)
                self.assertIs(name in plan, True)
            self.assertIs("d0" in plan, False)

    def test_arguments_stay_and_are_copied(self):
        sizes = {"c": 2, "b": 4, "a": 4}
        plan = TownPlan(TOWN, sizes)
        self.assertEqual(list(sizes.items()), [("c", 2), ("b", 4), ("a", 4)])
        other = TownPlan(TOWN, SIZES)
        sizes["a"] = 60
        sizes["d"] = 5
        del sizes["b"]
        self.assertEqual(plan.sizes, [4, 4, 2])
        for state in all_states([4, 4, 2]):
            self.assertEqual(plan.told(state), other.told(state))
            for writer in "abc":
                self.assertEqual(plan.turns(state, writer), other.turns(state, writer))

    def test_other_keys_are_ignored(self):
        plan = TownPlan(TOWN, {**SIZES, "d": 0, "A": 1, "zz": None, 5: 5})
        self.assertEqual([plan.names, plan.cells, plan.sizes], [list("abc"), [("a", 0), ("b", 0), ("c", 0)], [4, 4, 2]])
        self.fails(UnknownWriter, {"writer": "d"}, plan.turns, (0, 0, 0), "d")

    def test_invalid_town(self):
        for town in NO_TOWNS:
            self.fails(InvalidTown, {}, TownPlan, town, SIZES)
            self.fails(InvalidTown, {}, TownPlan, town, {})

    def test_invalid_sizes(self):
        for size in NO_SIZES:
            for name in "abc":
                self.fails(InvalidSizes, {"writer": name}, TownPlan, TOWN, {**SIZES, name: size})
            self.fails(InvalidSizes, {"writer": "b"}, TownPlan, TOWN, {"c": size, "b": size, "a": 1})
        self.fails(InvalidSizes, {"writer": "a"}, TownPlan, TOWN, {})
        self.fails(InvalidSizes, {"writer": "b"}, TownPlan, (("c", "b"), ("a",)), {"a": 1})

    def test_sum_too_great(self):
        for sizes, total in [
            ({"a": 3, "b": 4, "c": 2}, Share(7, 6)), ({"a": 3, "b": 4, "c": 1}, Share(7, 6)),
            ({"a": 4, "b": 4, "c": 1}, Share(2)), ({"a": 3, "b": 5, "c": 60}, Share(16, 15)),
            ({"a": 1, "b": 60, "c": 60}, Share(61, 30)),
        ]:
            self.fails(SumTooGreat, {"total": total}, TownPlan, TOWN, sizes)
        self.fails(SumTooGreat, {"total": Share(121, 60)}, TownPlan, ("b", "a", "c"), {"a": 1, "b": 1, "c": 60})

    def test_sum_of_exactly_one(self):
        for sizes in [SIZES, {"a": 3, "b": 6, "c": 2}, {"a": 60, "b": 60, "c": 60}, {"a": 3, "b": 60, "c": 2}]:
            self.assertEqual(TownPlan(TOWN, sizes).sizes, [sizes[name] for name in "abc"])

    def test_great_towns(self):
        town = deep_town(6)
        plan = TownPlan(town, {name: 60 for name in LETTERS[:6]})
        self.assertEqual([plan.told(plan.start()), len(plan.names)], ["a", 6])
        plan = TownPlan(tuple(LETTERS[:8]), {name: 59 - at for at, name in enumerate(LETTERS[:8])})
        self.gives("a", plan.told, plan.start())


class ReadingTest(Case):

    def test_all_states(self):
        for town, sizes in SMALL:
            plan = TownPlan(town, sizes)
            plain = PlainTown(town, sizes)
            for state in all_states(plan.sizes):
                boards = plain.boards(state)
                for hall, board in boards.items():
                    self.assertEqual(plan.board(state, hall), board)
                self.assertEqual(plan.told(state), plain.told(state))
                for writer in plan.names:
                    house = plain.house_of(writer)
                    marks = tuple([state[plan.names.index(name)] for name in plain_houses(town)[house]])
                    above = tuple([boards[house[:level]] for level in range(len(house))])
                    self.assertEqual(plan.sight(state, writer), (marks, above))

    def test_sight_has_the_order_of_the_house(self):
        plan = TownPlan((("b", "a"), ("c",)), SIZES)
        self.gives(((2, 1), (plan.board((1, 2, 0), ""),)), plan.sight, (1, 2, 0), "a")
        plan = TownPlan(("c", "a", "b"), {"a": 4, "b": 5, "c": 3})
        self.gives(((2, 3, 4), ()), plan.sight, (3, 4, 2), "b")

    def test_results_stay(self):
        plan = TownPlan(TOWN, SIZES)
        for state in all_states(plan.sizes):
            self.gives(plan.told(state), plan.told, state)
            for writer in "abc":
                self.gives(plan.sight(state, writer), plan.sight, state, writer)
                self.gives_new(plan.turns(state, writer), plan.turns, state, writer)
            for hall in ["", "0", "1"]:
                self.gives(plan.board(state, hall), plan.board, state, hall)

    def test_errors(self):
        plan = TownPlan((("a", "b"), ("c", "d", "e")), {name: 10 for name in "abcde"})
        for state in [state for state in NO_STATES if state != (2, 0, 0, 0, 0)] + [(10, 0, 0, 0, 0), (0, 0, 0, 0, 10)]:
            self.fails(InvalidState, {}, plan.told, state)
            self.fails(InvalidState, {}, plan.board, state, "x")
            self.fails(InvalidState, {}, plan.sight, state, "x")
            self.fails(InvalidState, {}, plan.turns, state, "x")
            self.fails(InvalidState, {}, plan.updated, state, "x", 5)
        for hall in ["2", "00", "a", None, 0, ["0"], {}, ()]:
            self.fails(UnknownHall, {"hall": hall}, plan.board, (0,) * 5, hall)
        for writer in NO_WRITERS:
            self.fails(UnknownWriter, {"writer": writer}, plan.turns, (0,) * 5, writer)
            self.fails(UnknownWriter, {"writer": writer}, plan.sight, (0,) * 5, writer)
            self.fails(UnknownWriter, {"writer": writer}, plan.updated, (0,) * 5, writer, 5)


class UpdateTest(Case):

    def updates_are_right(self, town, sizes):
        """Ask for points 3 and 38 in all states of a plan."""
        plan = TownPlan(town, sizes)
        plain = PlainTown(town, sizes)
        turns_of_sight = {}
        for state in all_states(plan.sizes):
            told = plain.told(state)
            before = plain.boards(state)
            for writer in plan.names:
                turns = plan.turns(state, writer)
                self.assertEqual(turns == [], told == writer)
                self.assertLessEqual(len(turns), 1)
                known = turns_of_sight.setdefault((plan.sight(state, writer), writer), turns)
                self.assertEqual(turns, known)
                if not turns:
                    continue
                ((index, mark),) = turns
                self.assertEqual(plan.cells[index], (writer, 0))
                self.assertNotEqual(mark, state[index])
                now = state[:index] + (mark,) + state[index + 1:]
                self.assertEqual(plan.updated(state, writer), now)
                self.assertEqual(plan.updated(state, writer, 0), state)
                self.assertEqual(plain.told(now), writer)
                self.boards_are_right(plain, before, plain.boards(now), writer)
                self.assertEqual(mark, self.plain_mark(plain, state, writer))

    def boards_are_right(self, plain, before, after, writer):
        """Ask whether all boards to the writer lead to it, and all others stay."""
        house = plain.house_of(writer)
        self.assertEqual(after[house], plain_houses(plain.town)[house].index(writer))
        for hall in before:
            if house.startswith(hall):
                if hall != house:
                    self.assertEqual(after[hall], int(house[len(hall)]))
            else:
                self.assertEqual(after[hall], before[hall])

    def plain_mark(self, plain, state, writer):
        """Return the least mark that gives the house the new phases, found without the program."""
        house = plain.house_of(writer)
        halls = plain_halls(plain.town)
        counts = [len(halls[house[:level]]) for level in range(len(house))]
        boards = plain.boards(state)
        phases = unpack(plain.pair(state, house)[1], counts)
        new = tuple([
            (phase + int(house[level]) - boards[house[:level]]) % counts[level] for level, phase in enumerate(phases)
        ])
        at = plain.names.index(writer)
        names = sorted(plain_houses(plain.town)[house])
        house_sizes = {name: plain.sizes[name] for name in names}
        for mark in range(plain.sizes[writer]):
            now = state[:at] + (mark,) + state[at + 1:]
            position = plain_position(house_sizes, [now[plain.names.index(name)] for name in names])
            if plain.pairs[house][position] == (writer, pack(new, counts)):
                return mark
        return None

    def test_all_states(self):
        for town, sizes in SMALL:
            self.updates_are_right(town, sizes)

    def test_one_writer(self):
        plan = TownPlan(("a",), {"a": 3})
        for mark in range(3):
            self.gives("a", plan.told, (mark,))
            self.gives_new([], plan.turns, (mark,), "a")

    def test_boards_show_the_last_update(self):
        for town, sizes in SMALL:
            plan = TownPlan(town, sizes)
            plain = PlainTown(town, sizes)
            states = all_states(plan.sizes)
            for number, state in enumerate(states[::max(1, len(states) // 40)]):
                now = state
                shown = plain.boards(state)
                row = [plan.names[(number + step * step * 3 + step // 2) % len(plan.names)] for step in range(12)]
                for writer in row:
                    now = plan.updated(now, writer)
                    house = plain.house_of(writer)
                    for level in range(len(house)):
                        shown[house[:level]] = int(house[level])
                    shown[house] = plain_houses(town)[house].index(writer)
                    self.assertEqual({hall: plan.board(now, hall) for hall in shown}, shown)
                    self.gives(writer, plan.told, now)

    def test_great_town(self):
        town, sizes = town_of_tree(((("a", "b"), ("c", "d")), (("e", "f"), ("g", "h"))))
        plan = TownPlan(town, sizes)
        now = (7, 3, 1, 0, 6, 5, 2, 4)
        for step in range(60):
            writer = LETTERS[step * 5 % 8]
            for other in LETTERS[:8]:
                turns = plan.turns(now, other)
                self.assertEqual(turns == [], plan.told(now) == other)
                self.assertEqual(plan.told(plan.updated(now, other)), other)
            now = plan.updated(now, writer)
            self.gives(writer, plan.told, now)


class TreeTest(Case):

    def test_towns_of_trees_tell_the_last_writer_too(self):
        for tree in [("a", "b"), (("a", "b"), "c"), *all_shapes(list("badc"))[:2]]:
            town, sizes = town_of_tree(tree)
            plan = TownPlan(town, sizes)
            forks = ForkPlan(tree)
            self.assertEqual(plan.names, forks.names)
            now, flags = plan.start(), forks.start()
            for writer in "cabbacbca":
                if writer in forks:
                    now, flags = plan.updated(now, writer), forks.updated(flags, writer)
                    self.assertEqual([plan.told(now), forks.told(flags)], [writer, writer])
