"""Points 42 to 45: histories."""

import inspect

from forkflags.errors import InvalidEvent, InvalidState, TooManyTurns, UnknownWriter
from forkflags.forkplan import ForkPlan
from forkflags.history import History, last_whole, moments_of, run
from forkflags.ratchets import RatchetPlan
from forkflags.townplan import TownPlan
from tests.helpers import LETTERS, Case, all_states, comb_tree
from tests.test_forkplan import SMALL_TREES, TREE
from tests.test_plans import NO_STATES
from tests.test_ratchets import FEW, some_rings
from tests.test_townplan import SIZES, SMALL
from tests.test_towns import TOWN

NO_WRITERS = ["d", "", "A", "ab", None, 0, True, ["a"], {}, (), ("a",)]


def drawn(number):
    """Return a rule that draws whole numbers below a limit, always the same ones."""
    held = [number * 7919 + 12345]

    def draw(limit):
        held[0] = (held[0] * 1103515245 + 12345) % 2 ** 31
        return (held[0] >> 16) % limit
    return draw


def drawn_events(plan, state, many, draw):
    """Return drawn events, the moments of their run, and the writer of the last whole one."""
    events, moments, whole = [], [(state, None)], None
    now = state
    for _ in range(many):
        writer = plan.names[draw(len(plan.names))]
        turns = plan.turns(now, writer)
        done = draw(len(turns) + 2)
        if done > len(turns):
            done = None
        for index, mark in turns if done is None else turns[:done]:
            now = now[:index] + (mark,) + now[index + 1:]
            moments.append((now, writer))
        if done is None or done == len(turns):
            whole = writer
        events.append((writer, done))
    return events, moments, whole


def some_plans():
    plans = [ForkPlan(tree) for tree in SMALL_TREES]
    plans += [TownPlan(town, sizes) for town, sizes in SMALL]
    return plans + [RatchetPlan(town, sizes, some_rings(sizes, 1)) for town, sizes in FEW]


class ExamplesTest(Case):

    def test_examples(self):
        plan = ForkPlan(TREE)
        self.gives_new(
            [((0, 0, 0, 0, 0), None), ((0, 0, 0, 0, 1), "c"), ((0, 0, 0, 1, 1), "b")],
            moments_of, plan, plan.start(), [("c", None), ("b", 1)],
        )
        self.fails(InvalidEvent, {"index": 1}, run, ForkPlan(("a", "b")), (0, 0), [("b", None), ("a", 2)])


class RunTest(Case):

    def test_drawn_events_from_all_states(self):
        for plan in some_plans():
            states = all_states(plan.sizes)
            for number, state in enumerate(states[::max(1, len(states) // 150)]):
                draw = drawn(number)
                events, moments, whole = drawn_events(plan, state, draw(9), draw)
                self.assertEqual(run(plan, state, events), moments[-1][0])
                self.assertEqual(last_whole(plan, state, events), whole)
                self.assertEqual(moments_of(plan, state, events), moments)
                told = plan.told(state) if whole is None else whole
                self.assertEqual(plan.told(run(plan, state, events)), told)
                if number % 10 == 0:
                    self.gives(moments[-1][0], run, plan, state, events)
                    self.gives(whole, last_whole, plan, state, events)
                    self.gives_new(moments, moments_of, plan, state, events)

    def test_every_state_of_small_plans(self):
        for plan in [ForkPlan(TREE), TownPlan(TOWN, SIZES), RatchetPlan(TOWN, SIZES, {"a": 4, "b": 8, "c": 4})]:
            for number, state in enumerate(all_states(plan.sizes)):
                for round_number in range(5):
                    draw = drawn(number * 5 + round_number)
                    events, _, whole = drawn_events(plan, state, 1 + draw(5), draw)
                    told = plan.told(state) if whole is None else whole
                    self.assertEqual(plan.told(run(plan, state, events)), told)

    def test_no_events(self):
        for plan in some_plans():
            state = plan.start()
            self.gives(state, run, plan, state, [])
            self.gives(None, last_whole, plan, state, [])
            self.gives_new([(state, None)], moments_of, plan, state, [])

    def test_events_of_the_told_writer(self):
        plan = ForkPlan(TREE)
        for done in [0, None]:
            state = (1, 0, 1, 0, 0)
            self.gives(state, run, plan, state, [("a", done)])
            self.gives("a", last_whole, plan, state, [("a", done)])
            self.gives_new([(state, None)], moments_of, plan, state, [("a", done)])
            self.gives("a", last_whole, plan, state, [("a", done), ("b", 0), ("c", 0)])
        self.fails(InvalidEvent, {"index": 0}, run, plan, (1, 0, 1, 0, 0), [("a", 1)])

    def test_whole_and_cut(self):
        plan = ForkPlan(TREE)
        state = (0, 0, 0, 0, 1)
        for done, whole in [(0, None), (1, None), (2, "b"), (None, "b")]:
            self.gives(whole, last_whole, plan, state, [("b", done)])
        # From a state that tells b the update of a has one turn, and so has that of c.
        self.gives("b", last_whole, plan, state, [("b", 2), ("c", 0), ("a", 0), ("c", 0)])
        self.gives("a", last_whole, plan, state, [("b", 2), ("c", 0), ("a", 1), ("c", 0)])
        self.gives("a", last_whole, plan, state, [("b", 2), ("c", 0), ("a", 1), ("a", None), ("b", 0)])
        self.gives("c", last_whole, plan, state, [("c", 0), ("b", 1), ("b", 0)])
        self.gives("b", last_whole, plan, state, [("c", 0), ("b", 1), ("b", None), ("c", 0)])
        self.gives(None, last_whole, plan, (0, 0, 0, 0, 0), [("b", 0), ("c", 0), ("b", 0)])

    def test_moments_have_one_turn_each(self):
        plan = ForkPlan(comb_tree(LETTERS[:12]))
        events = [("l", None), ("a", None), ("k", 1), ("k", None), ("k", None), ("b", 0)]
        moments = moments_of(plan, plan.start(), events)
        self.assertEqual(moments[0], (plan.start(), None))
        for before, after in zip(moments, moments[1:]):
            changed = [index for index in range(77) if before[0][index] != after[0][index]]
            self.assertEqual([plan.cells[index][0] for index in changed], [after[1]])
        self.assertEqual([writer for _, writer in moments[1:12]], ["l"] * 11)
        self.assertEqual(moments[-1][0], run(plan, plan.start(), events))

    def test_one_writer(self):
        plan = ForkPlan("a")
        self.gives((), run, plan, (), [("a", None), ("a", 0)])
        self.gives("a", last_whole, plan, (), [("a", 0)])
        self.gives_new([((), None)], moments_of, plan, (), [("a", None), ("a", 0)])
        self.fails(InvalidEvent, {"index": 1}, run, plan, (), [("a", 0), ("a", 1)])


class RunErrorsTest(Case):

    def all_fail(self, error, attributes, *args):
        for function in [run, last_whole, moments_of]:
            self.fails(error, attributes, function, *args)

    def test_invalid_state(self):
        for state in NO_STATES:
            for events in [[], [("zz", 99)], [("a", None)]]:
                self.all_fail(InvalidState, {}, ForkPlan(TREE), state, events)

    def test_unknown_writer(self):
        plan = ForkPlan(TREE)
        for writer in NO_WRITERS:
            self.all_fail(UnknownWriter, {"writer": writer}, plan, plan.start(), [(writer, None)])
            self.all_fail(UnknownWriter, {"writer": writer}, plan, plan.start(), [("c", 1), (writer, 99), ("b", 99)])

    def test_first_event_that_cannot_be_made(self):
        plan = ForkPlan(TREE)
        self.all_fail(InvalidEvent, {"index": 0}, plan, plan.start(), [("a", 1), ("zz", 0)])
        self.all_fail(InvalidEvent, {"index": 1}, plan, plan.start(), [("c", 1), ("b", 3), ("b", 4)])
        self.all_fail(InvalidEvent, {"index": 2}, plan, plan.start(), [("c", 1), ("b", 1), ("b", 2), ("zz", 0)])
        self.all_fail(UnknownWriter, {"writer": "zz"}, plan, plan.start(), [("c", 1), ("zz", 0), ("b", 9)])
        for done in [2, 3, 10 ** 30]:
            self.all_fail(InvalidEvent, {"index": 1}, plan, plan.start(), [("b", 1), ("c", done)])
        self.all_fail(InvalidEvent, {"index": 0}, TownPlan(TOWN, SIZES), (0, 0, 0), [("c", 2)])


class HistoryTest(Case):

    def test_start(self):
        for plan in some_plans():
            history = History(plan)
            self.assertIs(history.plan, plan)
            self.assertEqual([history.first, history.state, history.events], [plan.start(), plan.start(), []])
            self.assertEqual([len(history), history.reading], [0, plan.told(plan.start())])
            self.assertEqual(list(history.each_moment()), [(plan.start(), None)])

    def test_given_state(self):
        plan = ForkPlan(TREE)
        for state in all_states(plan.sizes):
            history = History(plan, state)
            self.assertEqual([history.first, history.state, history.events], [state, state, []])
            self.assertEqual(history.reading, plan.told(state))
            self.assertEqual(list(history.each_moment()), [(state, None)])
        self.assertEqual(History(plan, None).state, plan.start())
        self.assertEqual(History(plan, state=(1, 0, 0, 0, 0)).first, (1, 0, 0, 0, 0))

    def test_invalid_state(self):
        for state in NO_STATES:
            if state is not None:
                self.fails(InvalidState, {}, History, ForkPlan(TREE), state)
        self.fails(InvalidState, {}, History, ForkPlan("a"), (0,))

    def test_each_event(self):
        for number, plan in enumerate(some_plans()):
            for state in [None, plan.start(), tuple([size - 1 for size in plan.sizes])]:
                first = plan.start() if state is None else state
                events, moments, _ = drawn_events(plan, first, 12, drawn(number))
                history = History(plan, state)
                for at, (writer, done) in enumerate(events):
                    before = moments_of(plan, first, events[:at])
                    after = moments_of(plan, first, events[:at + 1])
                    made = history.write(writer) if done is None else history.write(writer, done)
                    self.assertEqual(made, len(after) - len(before))
                    self.assertIs(made.__class__, int)
                    self.assertEqual(len(history), at + 1)
                    self.assertEqual(history.state, after[-1][0])
                    self.assertEqual(history.first, first)
                    self.assertEqual(history.reading, plan.told(history.state))
                    self.assertEqual(history.events, events[:at + 1])
                    self.assertEqual(list(history.each_moment()), after)
                self.assertEqual(list(history.each_moment()), moments)

    def test_events_as_they_were_passed(self):
        history = History(ForkPlan(TREE), (0, 0, 0, 0, 1))
        self.assertEqual(history.write("b", 2), 2)
        self.assertEqual(history.write("b"), 0)
        self.assertEqual(history.write("b", None), 0)
        self.assertEqual(history.write("b", done=0), 0)
        self.assertEqual(history.write(writer="c", done=1), 1)
        self.assertEqual(history.write("a", 1), 1)
        self.assertEqual(history.write("a", 0), 0)
        self.assertEqual(history.events, [("b", 2), ("b", None), ("b", None), ("b", 0), ("c", 1), ("a", 1), ("a", 0)])
        self.assertEqual([len(history), history.reading], [7, "c"])
        self.assertEqual(len(list(history.each_moment())), 5)

    def test_errors_change_nothing(self):
        history = History(ForkPlan(TREE))
        history.write("c")
        before = [history.state, list(history.events), len(history), list(history.each_moment())]
        for writer in NO_WRITERS:
            self.fails(UnknownWriter, {"writer": writer}, history.write, writer, 99)
        for writer, most in [("a", 1), ("b", 2), ("c", 0)]:
            for done in [most + 1, most + 2, 10 ** 30]:
                self.fails(TooManyTurns, {"most": most}, history.write, writer, done)
        self.assertEqual([history.state, history.events, len(history), list(history.each_moment())], before)
        self.assertEqual(history.write("b"), 2)

    def test_generator(self):
        history = History(ForkPlan(TREE))
        history.write("c")
        moments = history.each_moment()
        self.assertTrue(inspect.isgenerator(moments))
        self.assertEqual(next(moments), ((0, 0, 0, 0, 0), None))
        self.assertEqual(list(moments), [((0, 0, 0, 0, 1), "c")])
        self.assertEqual(len(list(history.each_moment())), 2)
        given = list(history.each_moment())
        given.clear()
        self.assertEqual(len(list(history.each_moment())), 2)

    def test_two_histories_of_one_plan(self):
        plan = ForkPlan(TREE)
        first, second = History(plan), History(plan)
        first.write("c")
        self.assertEqual([first.reading, second.reading, len(second)], ["c", "a", 0])

    def test_200_events(self):
        plan = ForkPlan(comb_tree(LETTERS[:12]))
        history = History(plan)
        for step in range(200):
            history.write(LETTERS[step * 5 % 12])
            self.assertEqual(history.reading, LETTERS[step * 5 % 12])
        self.assertEqual(len(history), 200)
        self.assertEqual(list(history.each_moment())[-1][0], history.state)
