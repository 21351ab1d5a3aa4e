"""Points 71 to 74: diaries."""

from itertools import permutations, product

from forkflags.diaries import diaries_of, heard_before, told_story
from forkflags.errors import InvalidState, NoStory, UnknownWriter
from forkflags.forkplan import ForkPlan
from forkflags.ratchets import RatchetPlan
from forkflags.ruled import RuledTable
from forkflags.townplan import TownPlan
from tests.helpers import LETTERS, Case, all_states, comb_tree, deep_copy, plain_ways
from tests.test_forkplan import SMALL_TREES, TREE, plain_told
from tests.test_history import NO_WRITERS, drawn, some_plans
from tests.test_plans import NO_STATES
from tests.test_ratchets import RINGS
from tests.test_townplan import SIZES
from tests.test_towns import TOWN

COMB = comb_tree(LETTERS[:12])
THREE = [ForkPlan(TREE), TownPlan(TOWN, SIZES), RatchetPlan(TOWN, SIZES, RINGS)]


def plain_diaries(plan, state, row):
    """Return the diaries, the writers whose updates have turns, and the last state, found without the program."""
    diaries, made, now = {name: [] for name in plan.names}, [], state
    for writer in row:
        entry = []
        for index, mark in plan.turns(now, writer):
            entry.append((index, now[index], mark))
            now = now[:index] + (mark,) + now[index + 1:]
        if entry:
            diaries[writer].append(entry)
            made.append(writer)
    return diaries, made, now


def plain_story(plan, last, diaries):
    """Return the story, or the number of entries left, by trying all states as the one before."""
    rest = deep_copy(diaries)
    now, row = last, []
    while any(rest.values()):
        left = sum(map(len, rest.values()))
        writer = plan.told(now)
        entry = rest[writer].pop() if rest[writer] else None
        found = [
            before for before in all_states(plan.sizes)
            if plan.told(before) != writer and plan.updated(before, writer) == now
            and [(index, before[index], mark) for index, mark in plan.turns(before, writer)] == entry
        ]
        if not found:
            return left
        now = found[0]
        row.append(writer)
    return now, row[::-1]


def spoiled(plan, diaries, draw):
    """Return diaries with one drawn change."""
    diaries = deep_copy(diaries)
    writer = plan.names[draw(len(plan.names))]
    rows = diaries[writer]
    other = diaries[plan.names[draw(len(plan.names))]]
    kind = draw(9)
    if not rows or kind == 0:
        other.append([(draw(len(plan.sizes)), draw(2), draw(2)) for _ in range(draw(3))])
        return diaries
    at = draw(len(rows))
    entry = rows[at]
    place = draw(len(entry)) if entry else 0
    if kind == 1:
        del rows[at]
    elif kind == 2:
        rows.append(entry)
    elif kind == 3:
        other.append(rows.pop(at))
    elif kind == 4:
        rows.insert(0, rows.pop(at))
    elif kind == 5:
        entry.reverse()
    elif kind == 6:
        entry.append(entry[place])
    elif kind == 7:
        del entry[place]
    else:
        triple = list(entry[place])
        triple[draw(3)] = draw(3)
        entry[place] = tuple(triple)
    return diaries


class ExamplesTest(Case):

    def test_examples(self):
        plan = ForkPlan(TREE)
        diaries = {"a": [], "b": [[(3, 0, 1), (2, 0, 1)]], "c": [[(4, 0, 1)]]}
        self.gives_new(diaries, diaries_of, plan, plan.start(), ["c", "b", "b"])
        self.gives(((0, 0, 0, 0, 0), ["c", "b"]), told_story, plan, (0, 0, 1, 1, 1), diaries)


class DiariesTest(Case):

    def test_drawn_rows(self):
        for plan in some_plans():
            states = all_states(plan.sizes)
            for number in range(12):
                draw = drawn(number)
                state = states[draw(len(states))]
                row = [plan.names[draw(len(plan.names))] for _ in range(draw(9))]
                diaries, _, _ = plain_diaries(plan, state, row)
                self.gives_new(diaries, diaries_of, plan, state, row)
                self.assertEqual(list(diaries_of(plan, state, row)), plan.names)

    def test_updates_without_turns(self):
        for plan in THREE:
            told = plan.told(plan.start())
            self.gives_new({name: [] for name in plan.names}, diaries_of, plan, plan.start(), [told] * 3)
            self.gives_new({name: [] for name in plan.names}, diaries_of, plan, plan.start(), [])
            row = [name for name in plan.names if name != told]
            doubled = [name for name in row for _ in range(3)]
            self.assertEqual(diaries_of(plan, plan.start(), doubled), diaries_of(plan, plan.start(), row))

    def test_written_out(self):
        town, ratchet = THREE[1:]
        self.gives_new({"a": [], "b": [[(1, 0, 3)]], "c": [[(2, 0, 1)]]}, diaries_of, town, (0, 0, 0), ["c", "b"])
        self.gives_new({"a": [], "b": [[(1, 6, 7)]], "c": []}, diaries_of, ratchet, (0, 6, 1), ["b", "b"])
        plan = ForkPlan("a")
        self.gives_new({"a": []}, diaries_of, plan, (), ["a", "a"])

    def test_changes_of_what_is_returned(self):
        plan = ForkPlan(TREE)
        diaries = diaries_of(plan, plan.start(), ["c", "b"])
        diaries["c"][0].clear()
        diaries["b"].append(1)
        diaries["a"].append(2)
        self.assertEqual(
            diaries_of(plan, plan.start(), ["c", "b"]), {"a": [], "b": [[(3, 0, 1), (2, 0, 1)]], "c": [[(4, 0, 1)]]})

    def test_errors(self):
        for plan in THREE:
            for state in [*NO_STATES, [0] * len(plan.sizes), plan.start() + (0,), plan.start()[:-1] + (99,)]:
                self.fails(InvalidState, {}, diaries_of, plan, state, ["zz"])
                self.fails(InvalidState, {}, diaries_of, plan, state, [])
            for writer in [value for value in NO_WRITERS if value not in plan.names]:
                self.fails(UnknownWriter, {"writer": writer}, diaries_of, plan, plan.start(), ["c", "b", writer, "zz"])
                self.fails(UnknownWriter, {"writer": writer}, diaries_of, plan, plan.start(), [writer])


class StoryTest(Case):

    def there_and_back(self, plan, state, row):
        diaries, made, last = plain_diaries(plan, state, row)
        self.assertEqual(diaries_of(plan, state, row), diaries)
        story = told_story(plan, last, diaries)
        self.assertEqual(story, (state if made else last, made))
        self.assertEqual(diaries_of(plan, *story), diaries)

    def test_all_short_rows(self):
        for plan in THREE:
            states = all_states(plan.sizes)
            for state in states:
                for many in range(3):
                    for row in product(plan.names, repeat=many):
                        self.there_and_back(plan, state, list(row))
            for state in states[::5]:
                for row in product(plan.names, repeat=4):
                    self.there_and_back(plan, state, list(row))

    def test_drawn_rows(self):
        for plan in some_plans():
            states = all_states(plan.sizes)
            for number in range(12):
                draw = drawn(number + 50)
                row = [plan.names[draw(len(plan.names))] for _ in range(30)]
                self.there_and_back(plan, states[draw(len(states))], row)

    def test_great_plan(self):
        plan = ForkPlan(COMB)
        draw = drawn(1)
        self.there_and_back(plan, plan.start(), [LETTERS[draw(12)] for _ in range(150)])
        self.there_and_back(plan, (1,) * 77, [LETTERS[11 - at % 3] for at in range(50)])

    def test_spoiled_diaries(self):
        lefts = set()
        for plan in THREE:
            states = all_states(plan.sizes)
            for number in range(150):
                draw = drawn(number)
                row = [plan.names[draw(3)] for _ in range(draw(6))]
                diaries, _, last = plain_diaries(plan, states[draw(len(states))], row)
                diaries = spoiled(plan, diaries, draw)
                wanted = plain_story(plan, last, diaries)
                if isinstance(wanted, int):
                    lefts.add(wanted)
                    self.fails(NoStory, {"left": wanted}, told_story, plan, last, diaries)
                else:
                    self.gives(wanted, told_story, plan, last, diaries)
                    self.assertEqual(diaries_of(plan, *wanted), diaries)
                    self.assertEqual(plain_diaries(plan, *wanted)[2], last)
        self.assertTrue(lefts.issuperset({1, 2, 3, 4}), lefts)

    def test_at_most_one_run(self):
        # All rows with these entries are tried from all states.
        plan = ForkPlan(TREE)
        for number in range(40):
            draw = drawn(number)
            row = [plan.names[draw(3)] for _ in range(4)]
            state = all_states([2] * 5)[draw(32)]
            diaries, made, last = plain_diaries(plan, state, row)
            runs = [
                (first, list(order)) for first in all_states([2] * 5) for order in set(permutations(made))
                if plain_diaries(plan, first, order) == (diaries, list(order), last)
            ]
            self.assertEqual(runs, [(state, made)])

    def test_no_entries(self):
        for plan in [*THREE, ForkPlan("a")]:
            for last in all_states(plan.sizes):
                self.gives((last, []), told_story, plan, last, {name: [] for name in plan.names})

    def test_number_of_entries_left(self):
        plan = ForkPlan(TREE)
        diaries, _, last = plain_diaries(plan, plan.start(), ["c", "b", "a", "c", "b"])
        self.assertEqual(plan.told(last), "b")
        for name, at, left in [("c", 0, 1), ("b", 0, 2), ("a", 0, 3), ("c", 1, 4), ("b", 1, 5)]:
            for entry in [[], [*diaries[name][at], diaries[name][at][0]]]:
                wrong = deep_copy(diaries)
                wrong[name][at] = entry
                self.fails(NoStory, {"left": left}, told_story, plan, last, wrong)
        # The told writer has no entry left, while the others have.
        self.fails(NoStory, {"left": 3}, told_story, plan, last, {**diaries, "b": []})
        self.fails(NoStory, {"left": 2}, told_story, plan, last, {**diaries, "a": []})
        later = {**diaries, "b": diaries["b"][1:], "c": diaries["c"][1:]}
        self.gives(((0, 0, 1, 1, 1), ["a", "c", "b"]), told_story, plan, last, later)
        self.fails(NoStory, {"left": 1}, told_story, ForkPlan("a"), (), {"a": [[]]})
        self.fails(NoStory, {"left": 2}, told_story, ForkPlan("a"), (), {"a": [[], [(0, 0, 1)]]})

    def test_entries_that_are_wrong(self):
        plan = ForkPlan(TREE)
        last = (0, 0, 1, 1, 1)
        right = {"a": [], "b": [[(3, 0, 1), (2, 0, 1)]], "c": [[(4, 0, 1)]]}
        self.gives(((0, 0, 0, 0, 0), ["c", "b"]), told_story, plan, last, right)
        for entry in [
            [], [(2, 0, 1), (3, 0, 1)], [(3, 0, 1), (2, 0, 1), (2, 0, 1)],
            [(3, 0, 1), (3, 0, 1), (2, 0, 1)], [(3, 0, 1), (2, 0, 0)], [(3, 0, 1), (2, 1, 1)], [(3, 2, 1), (2, 0, 1)],
            [(3, -1, 1), (2, 0, 1)], [(3, 0, 1), (5, 0, 1)], [(3, 0, 1), (-3, 0, 1)], [(3, 0, 1), (10 ** 30, 0, 1)],
            [(3, 0, 1), (2, 0, 1), (4, 0, 1)], [(3, 0, 1), (2, 0, 2)], [(3, 0, 1), (2, 0, -1)], [(1, 0, 0), (0, 0, 0)],
            [(3, 0, True), (2, 0, 1)], [(3, False, 1), (2, 0, 1)], [(3, 0, 1), (2, None, 1)], [(None, 0, 1), (2, 0, 1)],
            [(3, 0, 1), (2, 0, 10 ** 30)], [(3, 10 ** 30, 1), (2, 0, 1)], [(3, 1, 0), (2, 1, 0)], [(4, 0, 1)],
        ]:
            self.fails(NoStory, {"left": 2}, told_story, plan, last, {**right, "b": [entry]})
            self.fails(NoStory, {"left": 3}, told_story, plan, last, {**right, "b": [*right["b"], entry]})
        # The first half of the entry could be an update, but of a run that begins elsewhere.
        self.fails(NoStory, {"left": 1}, told_story, plan, last, {**right, "b": [[(3, 0, 1)]]})
        self.gives(((0, 0, 0, 1, 0), ["c", "b"]), told_story, plan, last, {**right, "b": [[(2, 0, 1)]]})

    def test_the_same_writer_told_before(self):
        # The marks put back are right, but the told writer stays the same.
        plan = ForkPlan(("a", ("b", "c")))
        self.assertEqual([plan.told(plan.start()), plan.told((0, 0, 1, 0, 0))], ["a", "a"])
        for last, entry in [((0, 0, 0, 0, 0), [(0, 0, 0)]), ((0, 0, 1, 0, 0), [(2, 0, 1)])]:
            self.fails(NoStory, {"left": 1}, told_story, plan, last, {"a": [entry], "b": [], "c": []})

    def test_marks_of_dials(self):
        town, ratchet = THREE[1:]
        for plan, last, entry in [
            (town, (0, 3, 1), [(1, 4, 3)]), (town, (0, 3, 1), [(1, -1, 3)]), (town, (0, 3, 1), [(1, 0, 7)]),
            (ratchet, (0, 7, 1), [(1, 8, 7)]), (ratchet, (0, 7, 1), [(1, 2, 7)]), (ratchet, (0, 7, 1), [(1, 7, 7)]),
            (ratchet, (0, 7, 1), [(1, 3, 7)]), (ratchet, (0, 3, 1), [(1, 6, 7)]), (ratchet, (0, 7, 1), [(1, 2, 3)]),
        ]:
            self.assertEqual(plan.told(last), "b")
            self.fails(NoStory, {"left": 1}, told_story, plan, last, {"a": [], "b": [entry], "c": []})
        self.gives(((0, 6, 1), ["b"]), told_story, ratchet, (0, 7, 1), {"a": [], "b": [[(1, 6, 7)]], "c": []})

    def test_a_cell_named_twice(self):
        # Only a rule can turn a cell twice; the update and the entry are the same then.
        rule = [(1, 1), (1, 1)]
        table = RuledTable({"a": [2], "b": [2]}, list("abba"), {(0, "b"): rule})
        self.assertEqual([table.turns((0, 0), "b"), table.updated((0, 0), "b")], [rule, (0, 1)])
        self.fails(NoStory, {"left": 1}, told_story, table, (0, 1), {"a": [], "b": [[(1, 0, 1), (1, 0, 1)]]})

    def test_invalid_state_comes_first(self):
        for plan in THREE:
            for state in [*NO_STATES, [0] * len(plan.sizes), plan.start() + (0,), plan.start()[:-1] + (99,)]:
                for entries in [[], [[]], [[(0, 0, 1)]]]:
                    self.fails(InvalidState, {}, told_story, plan, state, {"a": entries, "b": [], "c": []})

    def test_order_of_the_keys_has_no_meaning(self):
        plan = ForkPlan(TREE)
        diaries, made, last = plain_diaries(plan, plan.start(), ["c", "b", "a", "c"])
        for order in permutations("abc"):
            self.gives((plan.start(), made), told_story, plan, last, {name: diaries[name] for name in order})


class HeardTest(Case):

    def test_all_writers_that_can_have_been_told(self):
        for tree in SMALL_TREES:
            plan = ForkPlan(tree)
            ways = plain_ways(tree)
            told = {}
            for state in all_states(plan.sizes):
                for writer in plan.names:
                    for entry in diaries_of(plan, state, [writer])[writer]:
                        told.setdefault((writer, tuple(entry)), set()).add(plain_told(tree, state))
            for (writer, entry), names in told.items():
                found = heard_before(plan, writer, list(entry))
                self.assertEqual(found, sorted(names, key=lambda name: ways[name]))
                self.gives_new(found, heard_before, plan, writer, list(entry))

    def test_values(self):
        plan = ForkPlan(TREE)
        self.gives_new(["c"], heard_before, plan, "b", [(3, 0, 1), (2, 0, 1)])
        self.gives_new(["c"], heard_before, plan, "b", [(2, 0, 1)])
        self.gives_new(["a"], heard_before, plan, "b", [(3, 1, 0)])
        self.gives_new(["a", "b"], heard_before, plan, "c", [(4, 0, 1)])
        plan = ForkPlan((("d", "a"), ("c", "b")))
        self.gives_new(["d", "a"], heard_before, plan, "b", diaries_of(plan, plan.start(), ["b"])["b"][0])
        self.gives_new(["c", "b"], heard_before, plan, "a", diaries_of(plan, plan.start(), ["c", "a"])["a"][0])

    def test_unknown_writer(self):
        for writer in NO_WRITERS:
            self.fails(UnknownWriter, {"writer": writer}, heard_before, ForkPlan(TREE), writer, [(4, 0, 1)])
