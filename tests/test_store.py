"""Points 75 to 80: the store."""

from itertools import product

from forkflags.errors import InvalidImage, InvalidRecord, InvalidState, TooManyTurns, UnknownWriter
from forkflags.forkplan import ForkPlan
from forkflags.ratchets import RatchetPlan
from forkflags.store import Store
from forkflags.townplan import TownPlan
from tests.helpers import LETTERS, Case, all_states, comb_tree
from tests.test_forkplan import SMALL_TREES, TREE, plain_told
from tests.test_history import NO_WRITERS, drawn, some_plans
from tests.test_lines import NO_NUMBERS, NO_RECORDS, RECORDS
from tests.test_plans import NO_STATES
from tests.test_ratchets import RINGS
from tests.test_townplan import SIZES
from tests.test_towns import TOWN

COMB = comb_tree(LETTERS[:12])
THREE = [ForkPlan(TREE), TownPlan(TOWN, SIZES), RatchetPlan(TOWN, SIZES, RINGS)]


class PlainStore:
    """A store whose writes are made one step after another, without the program."""

    def __init__(self, plan, state):
        self.plan, self.state = plan, state
        self.slots = {name: ["", ""] for name in plan.names}
        self.pointers = {name: 0 for name in plan.names}

    def newest(self):
        writer = self.plan.told(self.state)
        return writer, self.slots[writer][self.pointers[writer]]

    def each_step(self, writer, text):
        """Make one step of a write after another."""
        spare = 1 - self.pointers[writer]
        self.slots[writer][spare] = ""
        yield
        for sign in text:
            self.slots[writer][spare] += sign
            yield
        self.pointers[writer] = spare
        turns = self.plan.turns(self.state, writer)
        yield
        for index, mark in turns:
            self.state = self.state[:index] + (mark,) + self.state[index + 1:]
            yield

    def write(self, writer, text, steps):
        """Make this many steps, or all of them, and return how many there were."""
        made = 0
        if steps != 0:
            for _ in self.each_step(writer, text):
                made += 1
                if made == steps:
                    break
        return made

    def lines(self):
        found = [" ".join(["marks", *map(str, self.state)])]
        for name in self.plan.names:
            found += [f"writer {name} {self.pointers[name]}", ">" + self.slots[name][0], ">" + self.slots[name][1]]
        return found


class StoreCase(Case):

    def alike(self, store, plain):
        """Ask whether a store has what the plain one has."""
        self.assertEqual(store.state, plain.state)
        self.assertEqual(store.newest, plain.newest())
        for name in plain.plan.names:
            pointer = plain.pointers[name]
            self.assertEqual(store.pointer(name), pointer)
            self.assertEqual(store.record(name), plain.slots[name][pointer])
            self.assertEqual(store.spare(name), plain.slots[name][1 - pointer])
        self.gives_new(plain.lines(), store.image)


def drawn_writes(plan, state, many, draw):
    """Return a store and a plain one after drawn writes, most of them cut."""
    store, plain = Store(plan, state), PlainStore(plan, state)
    for _ in range(many):
        writer = plan.names[draw(len(plan.names))]
        text = "abc xyz"[draw(7):]
        most = store.step_count(writer, text)
        steps = None if draw(4) == 0 else draw(most + 1)
        store.write(writer, text, steps)
        plain.write(writer, text, steps)
    return store, plain


class ExamplesTest(Case):

    def test_example(self):
        store = Store(ForkPlan(TREE))
        self.assertEqual(store.write("c", "new"), 6)
        self.assertEqual(store.write("c", "newer", 4), 4)
        self.assertEqual([store.newest, store.spare("c")], [("c", "new"), "new"])
        self.gives_new([("a", ""), ("c", "new")], store.salvage, [4])


class StartTest(StoreCase):

    def test_start(self):
        for plan in some_plans():
            for store in [Store(plan), Store(plan, None), Store(plan, state=plan.start())]:
                self.assertIs(store.plan, plan)
                self.alike(store, PlainStore(plan, plan.start()))
                self.assertEqual(store.newest, (plan.told(plan.start()), ""))

    def test_given_state(self):
        for plan in THREE:
            for state in all_states(plan.sizes):
                self.alike(Store(plan, state), PlainStore(plan, state))

    def test_invalid_state(self):
        for plan in THREE:
            for state in [*NO_STATES, [0] * len(plan.sizes), plan.start() + (0,), plan.start()[:-1] + (99,)]:
                if state is not None:
                    self.fails(InvalidState, {}, Store, plan, state)
        self.fails(InvalidState, {}, Store, ForkPlan("a"), (0,))

    def test_unknown_writer(self):
        for plan in THREE:
            store = Store(plan)
            for writer in NO_WRITERS:
                for method in [store.record, store.spare, store.pointer]:
                    self.fails(UnknownWriter, {"writer": writer}, method, writer)
                for text in ["x", "\n", None]:
                    self.fails(UnknownWriter, {"writer": writer}, store.write, writer, text, 999)
                    self.fails(UnknownWriter, {"writer": writer}, store.step_count, writer, text)
            self.alike(store, PlainStore(plan, plan.start()))

    def test_one_writer(self):
        store = Store(ForkPlan("zz"))
        self.assertEqual([store.state, store.newest, store.image()], [(), ("zz", ""), ["marks", "writer zz 0", ">", ">"]])
        self.assertEqual([store.write("zz", "one"), store.newest], [5, ("zz", "one")])
        self.assertEqual([store.write("zz", "two", 4), store.newest, store.spare("zz")], [4, ("zz", "one"), "two"])
        self.assertEqual([store.write("zz", ""), store.newest, store.spare("zz")], [2, ("zz", ""), "one"])
        self.gives_new([("zz", "")], store.salvage, [])


class WriteTest(StoreCase):

    def each_cut(self, plain, store, writer, text):
        """Ask for each number of steps of one write, and for the newest pair up to the last one."""
        before = store.newest
        most = store.step_count(writer, text)
        self.assertEqual(most, len(text) + 2 + len(plain.plan.turns(plain.state, writer)))
        marks = plain.lines()
        for steps in [*range(most + 1), None]:
            other, model = store.twin(), PlainStore(plain.plan, plain.state)
            model.slots = {name: list(slots) for name, slots in plain.slots.items()}
            model.pointers = dict(plain.pointers)
            self.assertEqual(other.write(writer, text, steps), model.write(writer, text, steps))
            self.alike(other, model)
            whole = steps in (None, most)
            self.assertEqual(other.newest, (writer, text) if whole else before)
            # Nothing has to be repaired: the image is that of a store with the same newest pair.
            again = Store.from_image(plain.plan, other.image())
            self.assertEqual([again.newest, again.image()], [other.newest, other.image()])
        self.assertEqual(store.image(), marks)

    def test_each_step_from_all_states(self):
        for plan in THREE:
            for state in all_states(plan.sizes):
                for writer in plan.names:
                    self.each_cut(PlainStore(plan, state), Store(plan, state), writer, "xy")

    def test_each_step_after_cut_writes(self):
        for plan in some_plans():
            states = all_states(plan.sizes)
            for number in range(6):
                draw = drawn(number)
                state = states[draw(len(states))]
                store, plain = drawn_writes(plan, state, 7, draw)
                self.alike(store, plain)
                for writer in plan.names:
                    self.each_cut(plain, store, writer, ["", "new"][number % 2])

    def test_last_whole_write(self):
        for plan in some_plans():
            for number in range(8):
                draw = drawn(number + 20)
                store = Store(plan)
                newest = store.newest
                for at in range(25):
                    writer = plan.names[draw(len(plan.names))]
                    text = f"record {at}"
                    most = store.step_count(writer, text)
                    steps = None if draw(5) == 0 else draw(most + 1)
                    made = store.write(writer, text, steps)
                    newest = (writer, text) if made == most else newest
                    self.assertEqual(store.newest, newest)

    def test_cut_writes_one_after_another(self):
        store = Store(ForkPlan(TREE))
        self.assertEqual(store.write("b", "first"), 8)
        for writer, text, steps, spare in [
            ("b", "other", 3, "ot"), ("b", "third", 1, ""), ("b", "third", 0, ""), ("b", "more", 5, "more"),
            ("c", "news", 6, ""), ("c", "news", 5, "news"), ("a", "xyz", 4, "xyz"), ("c", "z", 2, "z"),
        ]:
            self.assertEqual(store.write(writer, text, steps), steps)
            self.assertEqual(store.newest, ("b", "first"))
            self.assertEqual(store.spare(writer), spare)
        # The pointer of c was turned once by a write that was cut right after it.
        self.assertEqual([store.pointer(name) for name in "abc"], [0, 1, 1])
        self.assertEqual([store.record("c"), store.spare("b")], ["news", "more"])

    def test_the_told_writer(self):
        store = Store(ForkPlan(TREE))
        self.assertEqual([store.step_count("a", "one"), store.write("a", "one", 4), store.newest], [5, 4, ("a", "")])
        self.assertEqual([store.write("a", "one", 5), store.newest], [5, ("a", "one")])
        self.assertEqual([store.state, store.pointer("a"), store.spare("a")], [(0,) * 5, 1, ""])
        self.assertEqual([store.write("a", "two"), store.newest, store.spare("a")], [5, ("a", "two"), "one"])

    def test_records_of_all_kinds(self):
        for plan in THREE:
            for text in RECORDS:
                store = Store(plan)
                count = store.step_count("b", text)
                self.assertEqual(count, len(text) + 2 + len(plan.turns(plan.start(), "b")))
                self.assertEqual(store.write("b", text, count - 1), count - 1)
                self.assertEqual(store.newest, ("a", ""))
                count = store.step_count("b", text)
                self.assertEqual(store.write("b", text=text), count)
                self.assertEqual(store.newest, ("b", text))

    def test_no_records(self):
        for plan in THREE:
            store = Store(plan)
            store.write("c", "kept")
            image = store.image()
            for text in NO_RECORDS:
                self.fails(InvalidRecord, {}, store.step_count, "b", text)
                for steps in [None, 0, 1, 9999]:
                    self.fails(InvalidRecord, {}, store.write, "b", text, steps)
            self.assertEqual(store.image(), image)

    def test_too_many_steps(self):
        for plan in THREE:
            store = Store(plan)
            store.write("c", "kept", 3)
            image = store.image()
            for writer, text in product(plan.names, ["", "x" * 200]):
                most = store.step_count(writer, text)
                for steps in [most + 1, most + 2, 10 ** 30]:
                    self.fails(TooManyTurns, {"most": most}, store.write, writer, text, steps)
            self.assertEqual(store.image(), image)

    def test_step_count_changes_nothing(self):
        store = Store(ForkPlan(TREE), (0, 0, 0, 0, 1))
        for writer, text, count in [("a", "", 3), ("b", "", 4), ("c", "", 2), ("b", "x" * 200, 204)]:
            self.gives(count, store.step_count, writer, text)
        self.alike(store, PlainStore(ForkPlan(TREE), (0, 0, 0, 0, 1)))

    def test_stores_share_nothing(self):
        plan = ForkPlan(TREE)
        first, second = Store(plan), Store(plan)
        first.write("c", "x")
        self.assertEqual([second.newest, second.pointer("c")], [("a", ""), 0])

    def test_great_plan(self):
        store = Store(ForkPlan(COMB))
        self.assertEqual(store.write("l", "x" * 200), 213)
        self.assertEqual(store.newest, ("l", "x" * 200))


class ImageTest(StoreCase):

    def test_written_out(self):
        store = Store(ForkPlan(TREE))
        store.write("c", " new > old ")
        store.write("b", "cut", 2)
        self.gives_new([
            "marks 0 0 0 0 1", "writer a 0", ">", ">", "writer b 0", ">", ">c", "writer c 1", ">", "> new > old ",
        ], store.image)

    def test_read_back(self):
        for plan in some_plans():
            states = all_states(plan.sizes)
            for number in range(6):
                draw = drawn(number)
                store, plain = drawn_writes(plan, states[draw(len(states))], 9, draw)
                again = Store.from_image(plan, store.image())
                self.assertIs(again.__class__, Store)
                self.assertIs(again.plan, plan)
                self.alike(again, plain)
                # The two stores share nothing.
                again.write(plan.names[0], "later")
                self.alike(store, plain)

    def test_any_state_pointers_and_records(self):
        for plan in THREE:
            for number, state in enumerate(all_states(plan.sizes)):
                lines = [" ".join(["marks", *map(str, state)])]
                for at, name in enumerate(plan.names):
                    slots = [RECORDS[(number + at) % len(RECORDS)], RECORDS[(number * 3 + at) % len(RECORDS)]]
                    lines += [f"writer {name} {number >> at & 1}", ">" + slots[0], ">" + slots[1]]
                store = Store.from_image(plan, lines)
                self.gives_new(lines, store.image)
                self.assertEqual(store.state, state)
                writer = plan.told(state)
                at = plan.names.index(writer)
                self.assertEqual(store.newest, (writer, lines[3 * at + 2 + (number >> at & 1)][1:]))

    def test_lines_may_change_afterwards(self):
        lines = Store(ForkPlan(TREE)).image()
        store = Store.from_image(ForkPlan(TREE), lines)
        lines[2] = ">changed"
        lines.pop()
        self.alike(store, PlainStore(ForkPlan(TREE), (0,) * 5))

    def test_marks_of_several_digits(self):
        plan = RatchetPlan(("a", "b"), {"a": 2, "b": 60}, {"a": 240, "b": 60})
        for marks in [(0, 0), (9, 9), (10, 10), (99, 59), (100, 1), (239, 59)]:
            lines = [f"marks {marks[0]} {marks[1]}", "writer a 0", ">", ">", "writer b 1", ">x", ">y"]
            self.assertEqual(Store.from_image(plan, lines).state, marks)
            self.assertEqual(Store.from_image(plan, lines).image(), lines)
        for line in ["marks 240 0", "marks 0 60", "marks 1000 0", "marks 0 100", "marks 010 0", "marks 10 00"]:
            self.fails(InvalidImage, {"line": 1}, Store.from_image, plan, [line, *lines[1:]])

    def test_first_line(self):
        plan = ForkPlan(TREE)
        lines = Store(plan).image()
        for text in [value for value in NO_NUMBERS] + ["2", "10", "1>"]:
            self.fails(InvalidImage, {"line": 1}, Store.from_image, plan, [f"marks 0 {text} 0 0 0", *lines[1:]])
            self.fails(InvalidImage, {"line": 1}, Store.from_image, plan, [f"marks 0 0 0 0 {text}"])
        for line in [
            "", "marks", "marks ", "marks 0 0 0 0", "marks 0 0 0 0 0 0", "marks 0 0 0 0 0 ", " marks 0 0 0 0 0",
            "marks  0 0 0 0 0", "Marks 0 0 0 0 0", "mark 0 0 0 0 0", "marks0 0 0 0 0", "0 0 0 0 0", "marks\t0 0 0 0 0",
            "marks 0 0 0 0 0\n", "marks 0,0,0,0,0", ">", "writer a 0", "marks 0 0 0 0 None", "marks marks 0 0 0 0",
        ]:
            self.fails(InvalidImage, {"line": 1}, Store.from_image, plan, [line, *lines[1:]])
        one = ["marks", "writer a 1", ">x", ">y"]
        self.assertEqual(Store.from_image(ForkPlan("a"), one).newest, ("a", "y"))
        for line in ["marks ", "marks 0", "", "mark"]:
            self.fails(InvalidImage, {"line": 1}, Store.from_image, ForkPlan("a"), [line, *one[1:]])

    def test_other_lines(self):
        plan = ForkPlan(TREE)
        lines = Store(plan).image()
        heads = ["", "writer a", "writer a ", "writer a 2", "writer a -1", "writer a 00", "writer a 0 ", " writer a 0",
                 "writer  a 0", "writer a  0", "Writer a 0", "writer A 0", "writer d 0", "writer aa 0", "a 0", ">",
                 "writer a 0\n", "writer a 1 1", "writer a \u0661", "marks 0 0 0 0 0", "writera 0"]
        slots = ["", " >", "x", "x>", "writer a 0", ">" + "x" * 201, ">\n", ">a\n", ">\t", ">\x7f", ">\u00e9", "<", "\n>"]
        for at in range(1, 10):
            name = "abc"[(at - 1) // 3]
            wrong = slots if at % 3 != 1 else [line for line in heads if line != f"writer {name} 0"]
            wrong = wrong + ([f"writer {other} 0" for other in "abc" if other != name] if at % 3 == 1 else [])
            for line in wrong:
                self.fails(InvalidImage, {"line": at + 1}, Store.from_image, plan, [*lines[:at], line, *lines[at + 1:]])
                # Of several wrong lines the first one is named.
                self.fails(InvalidImage, {"line": at + 1}, Store.from_image, plan, [*lines[:at], line])
                self.fails(InvalidImage, {"line": at + 1}, Store.from_image, plan, [*lines[:at], line, *["?"] * 20])

    def test_number_of_lines(self):
        for plan in [*THREE, ForkPlan("a"), ForkPlan(COMB)]:
            lines = Store(plan).image()
            self.assertEqual(len(lines), 1 + 3 * len(plan.names))
            for many in range(len(lines)):
                self.fails(InvalidImage, {"line": many + 1}, Store.from_image, plan, lines[:many])
            for more in [[""], [">"], ["marks"], ["writer d 0", ">", ">"], lines]:
                self.fails(InvalidImage, {"line": len(lines) + 1}, Store.from_image, plan, lines + more)

    def test_image_of_another_plan(self):
        lines = Store(ForkPlan(TREE)).image()
        self.fails(InvalidImage, {"line": 2}, Store.from_image, ForkPlan((("b", "c"), "d")), lines)
        self.fails(InvalidImage, {"line": 1}, Store.from_image, TownPlan(TOWN, SIZES), lines)


class TwinTest(StoreCase):

    def test_twin(self):
        for plan in some_plans():
            store, plain = drawn_writes(plan, plan.start(), 6, drawn(3))
            twin = store.twin()
            self.assertIs(twin.__class__, Store)
            self.assertIsNot(twin, store)
            self.assertIs(twin.plan, plan)
            self.alike(twin, plain)
            for name in plan.names:
                twin.write(name, "of the twin")
            self.alike(store, plain)
            lines = twin.image()
            for name in plan.names:
                store.write(name, "of the other")
            self.assertEqual(twin.image(), lines)
            self.assertEqual(twin.newest, (plan.names[-1], "of the twin"))


class SalvageTest(StoreCase):

    def test_all_marks_of_the_lost_flags(self):
        for tree in [tree for tree in SMALL_TREES if len(ForkPlan(tree).cells) < 10]:
            plan = ForkPlan(tree)
            for number in range(5):
                draw = drawn(number)
                states = all_states(plan.sizes)
                store, plain = drawn_writes(plan, states[draw(len(states))], 8, draw)
                for _ in range(12):
                    lost = [index for index in range(len(plan.cells)) if draw(2)]
                    if lost and draw(2):
                        lost = [*lost[::-1], lost[draw(len(lost))]]
                    told = set()
                    for marks in all_states([2] * len(lost)):
                        now = list(plain.state)
                        for index, mark in zip(lost, marks):
                            now[index] = mark
                        told.add(plain_told(tree, tuple(now)))
                    wanted = [(name, plain.slots[name][plain.pointers[name]]) for name in sorted(told)]
                    self.gives_new(wanted, store.salvage, lost)
                self.alike(store, plain)

    def test_nothing_lost(self):
        store, _ = drawn_writes(ForkPlan(TREE), (0,) * 5, 9, drawn(1))
        self.gives_new([store.newest], store.salvage, [])

    def test_same_index_twice(self):
        store = Store(ForkPlan(TREE))
        store.write("c", "new")
        self.gives_new([("a", ""), ("c", "new")], store.salvage, [4, 4])
        self.gives_new([("a", ""), ("b", ""), ("c", "new")], store.salvage, [3, 4, 3, 4])

    def test_all_flags_lost(self):
        store = Store(ForkPlan(COMB))
        for name in LETTERS[:12]:
            store.write(name, f"record of {name}")
        wanted = [(name, f"record of {name}") for name in LETTERS[:12]]
        self.gives_new(wanted, store.salvage, list(range(77)))
        self.gives_new(wanted[11:], store.salvage, [])

    def test_no_flags(self):
        store = Store(ForkPlan(TREE))
        for index in [5, -1, 10 ** 30, None, True, False, "0", (0,), [0], ("a", 0)]:
            self.fails(InvalidState, {}, store.salvage, [index])
            self.fails(InvalidState, {}, store.salvage, [0, 1, index])
        self.fails(InvalidState, {}, Store(ForkPlan("a")).salvage, [0])
