"""Points 83 to 87 and 89, and obey of point 88: the desk."""

from forkflags.commands import format_line
from forkflags.desk import Desk
from forkflags.errors import (
    DuplicateWriter, ForkError, InvalidLine, InvalidName, InvalidRecord, InvalidTree, NoFlagLeft, NothingToRedo,
    NothingToUndo, StillTold, TooMany, TooManyTurns, UnknownWriter,
)
from forkflags.forkplan import ForkPlan
from forkflags.moves import admitted, dismissed
from forkflags.store import Store
from tests.helpers import LETTERS, NO_NAMES, NO_TREES, Case, comb_tree
from tests.test_forkplan import SMALL_TREES, TREE
from tests.test_history import NO_WRITERS, drawn
from tests.test_lines import NO_RECORDS

COMB = comb_tree(LETTERS[:12])


def look(desk):
    """Return all that can be seen of the present store."""
    return desk.store.plan.tree, desk.store.image()


def shown_after(desk, step, end):
    """Take a step again and again up to this error, and return what the desk shows after each."""
    shown = []
    while True:
        try:
            step()
        except end:
            return shown
        shown.append(look(desk))


def conditions(desk):
    """Return what the desk shows, and how far it can go back and forward; the desk is left as it was."""
    now = look(desk)
    back = shown_after(desk, desk.undo, NothingToUndo)
    for _ in back:
        desk.redo()
    forward = shown_after(desk, desk.redo, NothingToRedo)
    for _ in forward:
        desk.undo()
    return [now, *back, *forward], len(back), len(forward), desk.newest, desk.flag_limit


class DeskCase(Case):

    def refused(self, error, attributes, desk, method, *args):
        """Ask for this error, and for a desk that is as it was, undo and redo included."""
        before = conditions(desk)
        self.fails(error, attributes, method, *args)
        self.assertEqual(conditions(desk), before)


class ExamplesTest(Case):

    def test_example(self):
        desk = Desk(("a", "b"))
        self.assertEqual(desk.obey("write b hello"), ("b", "hello"))
        self.assertEqual(desk.obey("admit c b"), ("b", "hello"))
        self.assertEqual(desk.obey("cut c 4 news"), ("b", "hello"))
        self.assertEqual(desk.store.plan.tree, ("a", ("b", "c")))
        self.assertEqual(desk.obey("undo"), ("b", "hello"))
        self.assertEqual(desk.store.spare("c"), "")


class StartTest(DeskCase):

    def test_start(self):
        for tree in [*SMALL_TREES, COMB]:
            desk = Desk(tree)
            self.assertIs(desk.store.__class__, Store)
            self.assertIs(desk.store.plan.__class__, ForkPlan)
            self.assertEqual(look(desk), (tree, Store(ForkPlan(tree)).image()))
            self.assertEqual(desk.newest, (desk.store.plan.told(desk.store.plan.start()), ""))
            self.assertEqual(desk.flag_limit, 12)
            self.assertEqual(conditions(desk)[1:3], (0, 0))

    def test_most_steps(self):
        self.assertEqual([Desk.MOST_STEPS, Desk("a").MOST_STEPS], [400, 400])

    def test_limits(self):
        for tree, height in [("a", 0), (("a", "b"), 1), (TREE, 2), (COMB, 11)]:
            for limit in [height, height + 1, 100]:
                self.assertEqual(Desk(tree, limit).flag_limit, limit)
                self.assertEqual(Desk(tree, flag_limit=limit).flag_limit, limit)
        for tree, limit, writer in [
            (("b", "a"), 0, "a"), (TREE, 1, "a"), (TREE, 0, "a"), (("c", ("b", "a")), 1, "a"), (("a", ("c", "b")), 1, "b"),
            (("a", ("c", "b")), 0, "a"), (COMB, 10, "k"), (COMB, 5, "f"), (COMB, 0, "a"),
        ]:
            self.fails(NoFlagLeft, {"writer": writer}, Desk, tree, limit)

    def test_invalid_tree_comes_first(self):
        for value in NO_TREES:
            self.fails(InvalidTree, {}, Desk, value)
            self.fails(InvalidTree, {}, Desk, value, 0)


class WriteTest(DeskCase):

    def test_as_the_store_does(self):
        for tree in SMALL_TREES:
            desk, store = Desk(tree), Store(ForkPlan(tree))
            draw = drawn(2)
            for at in range(30):
                writer = store.plan.names[draw(len(store.plan.names))]
                text = f"record {at}"
                steps = None if draw(3) == 0 else draw(store.step_count(writer, text) + 1)
                self.assertEqual(desk.write(writer, text, steps), store.write(writer, text, steps))
                self.assertEqual(look(desk), (tree, store.image()))
                self.assertEqual(desk.newest, store.newest)

    def test_arguments(self):
        desk = Desk(TREE)
        self.assertEqual(desk.write("b", "x"), 4)
        self.assertEqual(desk.write(writer="c", text="yy", steps=2), 2)
        self.assertEqual([desk.newest, desk.store.spare("c")], [("b", "x"), "y"])

    def test_errors(self):
        desk = Desk(TREE)
        desk.write("c", "kept")
        desk.write("b", "undone")
        desk.undo()
        for writer in NO_WRITERS:
            for text in ["x", None]:
                self.refused(UnknownWriter, {"writer": writer}, desk, desk.write, writer, text, 999)
        for text in NO_RECORDS:
            self.refused(InvalidRecord, {}, desk, desk.write, "a", text, 999)
        for writer, most in [("a", 4), ("b", 5), ("c", 3)]:
            for steps in [most + 1, 10 ** 30]:
                self.refused(TooManyTurns, {"most": most}, desk, desk.write, writer, "x", steps)


class AdmitTest(DeskCase):

    def test_as_admitted(self):
        for tree in SMALL_TREES:
            for beside in ForkPlan(tree).names:
                desk = Desk(tree)
                for name in desk.store.plan.names:
                    desk.write(name, f"record of {name}")
                desk.write(beside, "cut off", 5)
                before = desk.store.twin()
                self.assertIsNone(desk.admit("e", beside))
                plan, state = admitted(before.plan, before.state, "e", beside)
                self.assertEqual([desk.store.plan.tree, desk.store.state], [plan.tree, state])
                self.assertEqual(desk.newest, before.newest)
                self.assertEqual([desk.store.record("e"), desk.store.spare("e"), desk.store.pointer("e")], ["", "", 0])
                for name in before.plan.names:
                    self.assertEqual(
                        [desk.store.record(name), desk.store.spare(name), desk.store.pointer(name)],
                        [before.record(name), before.spare(name), before.pointer(name)])

    def test_errors_in_order(self):
        desk = Desk(TREE, 2)
        desk.write("c", "kept")
        desk.admit("d", "c")
        desk.undo()
        for name in NO_NAMES:
            self.refused(InvalidName, {"name": name}, desk, desk.admit, name, "zz")
            self.refused(InvalidName, {"name": name}, desk, desk.admit, name, "a")
        self.refused(DuplicateWriter, {"writer": "a"}, desk, desk.admit, "a", "zz")
        self.refused(DuplicateWriter, {"writer": "b"}, desk, desk.admit, "b", "a")
        for writer in NO_WRITERS:
            self.refused(UnknownWriter, {"writer": writer}, desk, desk.admit, "zz", writer)
        for beside in ["a", "b"]:
            self.refused(NoFlagLeft, {"writer": beside}, desk, desk.admit, "zz", beside)
        full = Desk(COMB, 11)
        self.refused(TooMany, {"most": 12}, full, full.admit, "zz", "l")

    def test_limit(self):
        for tree, limit, beside, fits in [
            ("a", 0, "a", False), ("a", 1, "a", True), (TREE, 2, "c", True), (TREE, 2, "a", False), (TREE, 3, "a", True),
            (("a", ("b", "c")), 2, "a", True), (("a", ("b", "c")), 2, "c", False),
        ]:
            desk = Desk(tree, limit)
            if fits:
                self.assertIsNone(desk.admit("zz", beside))
                self.assertEqual(desk.newest, Desk(tree).newest)
            else:
                self.refused(NoFlagLeft, {"writer": beside}, desk, desk.admit, "zz", beside)

    def test_twelve_writers(self):
        desk = Desk("a")
        for name in LETTERS[1:12]:
            desk.admit(name, LETTERS[LETTERS.index(name) // 2])
        self.assertEqual(desk.store.plan.names, LETTERS[:12])
        self.refused(TooMany, {"most": 12}, desk, desk.admit, "m", "a")


class DismissTest(DeskCase):

    def test_as_dismissed(self):
        for tree in SMALL_TREES[1:]:
            for writer in ForkPlan(tree).names:
                desk = Desk(tree)
                for name in desk.store.plan.names[::-1]:
                    desk.write(name, f"record of {name}")
                    desk.write(name, "cut off", 4)
                other = [name for name in desk.store.plan.names if name != writer][0]
                desk.write(other, "newest")
                before = desk.store.twin()
                self.assertIsNone(desk.dismiss(writer))
                plan, state = dismissed(before.plan, before.state, writer)
                self.assertEqual([desk.store.plan.tree, desk.store.state], [plan.tree, state])
                self.assertEqual(desk.newest, (other, "newest"))
                self.fails(UnknownWriter, {"writer": writer}, desk.store.record, writer)
                for name in plan.names:
                    self.assertEqual(
                        [desk.store.record(name), desk.store.spare(name), desk.store.pointer(name)],
                        [before.record(name), before.spare(name), before.pointer(name)])
                # The slots are gone, also for a writer with the same name.
                desk.admit(writer, other)
                self.assertEqual(
                    [desk.store.record(writer), desk.store.spare(writer), desk.store.pointer(writer)], ["", "", 0])
                desk.undo()
                desk.undo()
                self.assertEqual(desk.store.record(writer), before.record(writer))

    def test_errors(self):
        desk = Desk(TREE)
        desk.write("c", "kept")
        desk.write("b", "undone")
        desk.undo()
        for writer in NO_WRITERS:
            self.refused(UnknownWriter, {"writer": writer}, desk, desk.dismiss, writer)
        self.refused(StillTold, {"writer": "c"}, desk, desk.dismiss, "c")
        alone = Desk("zz", 0)
        self.refused(StillTold, {"writer": "zz"}, alone, alone.dismiss, "zz")

    def test_down_to_one_writer(self):
        desk = Desk(COMB)
        desk.write("g", "last")
        for name in [name for name in LETTERS[:12] if name != "g"]:
            desk.dismiss(name)
            self.assertEqual(desk.newest, ("g", "last"))
        self.assertEqual([desk.store.plan.tree, desk.store.state], ["g", ()])
        self.refused(StillTold, {"writer": "g"}, desk, desk.dismiss, "g")


class UndoTest(DeskCase):

    def some_deeds(self):
        """Return a desk after several deeds, and what it showed before and after each of them."""
        desk = Desk(TREE)
        shown = [look(desk)]
        for deed in [
            lambda: desk.write("b", "one"), lambda: desk.write("c", "two", 3), lambda: desk.write("a", "zero", 0),
            lambda: desk.admit("d", "b"), lambda: desk.dismiss("a"), lambda: desk.write("d", "three"),
            lambda: desk.batch([("admit", "a", "d"), ("write", "a", "four"), ("dismiss", "b")]),
            lambda: desk.write("a", "four"),
        ]:
            deed()
            shown.append(look(desk))
        return desk, shown

    def test_through_the_same_stores(self):
        desk, shown = self.some_deeds()
        self.assertEqual(len(shown), 9)
        for _ in range(2):
            for before in shown[-2::-1]:
                self.assertIsNone(desk.undo())
                self.assertEqual(look(desk), before)
            self.refused(NothingToUndo, {}, desk, desk.undo)
            for after in shown[1:]:
                self.assertIsNone(desk.redo())
                self.assertEqual(look(desk), after)
            self.refused(NothingToRedo, {}, desk, desk.redo)
        self.assertEqual(desk.newest, ("a", "four"))

    def test_back_and_forth(self):
        desk, shown = self.some_deeds()
        at, draw = len(shown) - 1, drawn(4)
        for _ in range(100):
            if draw(2):
                if at == 0:
                    self.fails(NothingToUndo, {}, desk.undo)
                else:
                    desk.undo()
                    at -= 1
            elif at == len(shown) - 1:
                self.fails(NothingToRedo, {}, desk.redo)
            else:
                desk.redo()
                at += 1
            self.assertEqual(look(desk), shown[at])

    def test_nothing_to_undo(self):
        desk = Desk(TREE)
        self.refused(NothingToUndo, {}, desk, desk.undo)
        self.refused(NothingToRedo, {}, desk, desk.redo)
        self.assertEqual(desk.newest, ("a", ""))

    def test_new_deed_ends_redo(self):
        for deed in [
            lambda desk: desk.write("a", "x"), lambda desk: desk.write("a", "x", 1), lambda desk: desk.write("a", "x", 0),
            lambda desk: desk.admit("e", "a"), lambda desk: desk.dismiss("c"),
            lambda desk: desk.batch([("cut", "a", "", 0)]), lambda desk: desk.obey("cut a 0 "),
            lambda desk: desk.obey("write c x"), lambda desk: desk.obey("admit e a"), lambda desk: desk.obey("dismiss c"),
        ]:
            desk = Desk(TREE)
            desk.write("b", "one")
            desk.write("b", "two")
            desk.write("b", "three")
            desk.undo()
            desk.undo()
            deed(desk)
            self.assertEqual(conditions(desk)[1:3], (2, 0))
            self.refused(NothingToRedo, {}, desk, desk.redo)
            desk.undo()
            self.assertEqual(desk.newest, ("b", "one"))

    def test_what_leaves_redo_available(self):
        desk = Desk(TREE, 2)
        desk.write("b", "one")
        desk.undo()
        self.fails(NothingToUndo, {}, desk.undo)
        for error, method, args in [
            (UnknownWriter, desk.write, ("zz", "x")), (InvalidRecord, desk.write, ("a", "\n")),
            (TooManyTurns, desk.write, ("a", "x", 99)), (NoFlagLeft, desk.admit, ("d", "a")),
            (StillTold, desk.dismiss, ("a",)), (UnknownWriter, desk.batch, ([("write", "c", "x"), ("dismiss", "zz")],)),
            (InvalidLine, desk.obey, ("redo ",)), (UnknownWriter, desk.obey, ("write zz x",)),
            (NothingToUndo, desk.obey, ("undo",)),
        ]:
            with self.assertRaises(error):
                method(*args)
        self.assertEqual(desk.batch([]), 0)
        desk.change_flag_limit(5)
        desk.flag_limit = 2
        self.fails(NoFlagLeft, {"writer": "a"}, desk.change_flag_limit, 1)
        desk.redo()
        self.assertEqual(desk.newest, ("b", "one"))
        self.fails(NothingToRedo, {}, desk.redo)
        self.fails(NothingToRedo, {}, desk.redo)
        desk.undo()
        desk.redo()
        self.assertEqual(desk.newest, ("b", "one"))

    def test_cut_write_is_a_deed(self):
        desk = Desk(TREE)
        for steps in [0, 1, 2, 3, 4]:
            desk.write("b", "xy", steps)
        self.assertEqual(conditions(desk)[1:3], (5, 0))
        self.assertEqual(desk.store.pointer("b"), 1)
        desk.undo()
        self.assertEqual([desk.store.pointer("b"), desk.store.spare("b")], [0, "xy"])
        desk.undo()
        self.assertEqual(desk.store.spare("b"), "x")

    def test_200_deeds(self):
        desk = Desk(COMB)
        shown = [look(desk)]
        for at in range(200):
            desk.write(LETTERS[at * 7 % 12], f"record {at}", None if at % 3 else at % 5)
            shown.append(look(desk))
        for before in shown[-2::-1]:
            desk.undo()
            self.assertEqual(look(desk), before)
        self.fails(NothingToUndo, {}, desk.undo)
        for after in shown[1:]:
            desk.redo()
            self.assertEqual(look(desk), after)


class BatchTest(DeskCase):

    DEEDS = [
        ("admit", "d", "c"), ("write", "d", "one"), ("cut", "a", "two", 4), ("dismiss", "c"), ("cut", "b", "three", 0),
        ("write", "a", ""), ("admit", "c", "a"), ("cut", "c", "x", 2),
    ]

    def test_as_the_deeds_alone(self):
        for many in range(1, len(self.DEEDS) + 1):
            deeds = self.DEEDS[:many]
            desk, other = Desk(TREE), Desk(TREE)
            self.assertEqual(desk.batch(deeds), many)
            self.assertEqual(deeds, self.DEEDS[:many])
            for deed in deeds:
                other.obey(format_line(deed))
            self.assertEqual(look(desk), look(other))
            self.assertEqual(conditions(desk)[1:3], (1, 0))
            self.assertEqual(conditions(other)[1:3], (many, 0))
            desk.undo()
            self.assertEqual(look(desk), look(Desk(TREE)))
            desk.redo()
            self.assertEqual(look(desk), look(other))

    def test_empty_batch(self):
        desk = Desk(TREE)
        desk.write("b", "one")
        desk.write("b", "two")
        desk.undo()
        before = conditions(desk)
        self.assertEqual(desk.batch([]), 0)
        self.assertEqual(conditions(desk), before)
        self.assertEqual(before[1:3], (1, 1))

    def test_one_that_raises(self):
        for wrong, error, attributes in [
            (("write", "zz", "x"), UnknownWriter, {"writer": "zz"}), (("write", "a", "\n"), InvalidRecord, {}),
            (("cut", "a", "x", 99), TooManyTurns, {"most": 5}), (("admit", "A", "a"), InvalidName, {"name": "A"}),
            (("admit", "d", "a"), DuplicateWriter, {"writer": "d"}), (("dismiss", "d"), StillTold, {"writer": "d"}),
            (("admit", "e", "b"), NoFlagLeft, {"writer": "b"}), (("dismiss", "zz"), UnknownWriter, {"writer": "zz"}),
        ]:
            desk = Desk(TREE, 2)
            desk.write("b", "one")
            desk.write("b", "two")
            desk.undo()
            first = [("admit", "d", "c"), ("write", "d", "new")]
            for deeds in [[*first, wrong], [*first, wrong, ("dismiss", "a")], [*first, wrong, ("dismiss", "zz")]]:
                self.refused(error, attributes, desk, desk.batch, deeds)
            self.assertEqual(desk.newest, ("b", "one"))

    def test_first_error_ends_the_batch(self):
        desk = Desk(TREE)
        self.refused(UnknownWriter, {"writer": "y"}, desk, desk.batch, [("dismiss", "y"), ("dismiss", "z")])
        deeds = [("write", "b", "x"), ("write", "a", "x"), ("dismiss", "a")]
        self.refused(StillTold, {"writer": "a"}, desk, desk.batch, deeds)
        self.assertEqual(desk.batch([("write", "b", "x"), ("dismiss", "a")]), 2)
        self.assertEqual([desk.newest, desk.store.plan.names], [("b", "x"), ["b", "c"]])

    def test_deeds_may_change_afterwards(self):
        desk = Desk(TREE)
        deeds = [("write", "b", "x")]
        desk.batch(deeds)
        deeds[0] = ("dismiss", "b")
        desk.undo()
        desk.redo()
        self.assertEqual(desk.newest, ("b", "x"))


class LimitTest(DeskCase):

    def test_assigning(self):
        for change in [Desk.change_flag_limit, lambda desk, limit: setattr(desk, "flag_limit", limit)]:
            desk = Desk(TREE, 5)
            for limit in [2, 3, 100, 12]:
                self.assertIsNone(change(desk, limit))
                self.assertEqual(desk.flag_limit, limit)
            for limit, writer in [(1, "a"), (0, "a")]:
                before = conditions(desk)
                self.fails(NoFlagLeft, {"writer": writer}, change, desk, limit)
                self.assertEqual(conditions(desk), before)
                self.assertEqual(desk.flag_limit, 12)
        self.fails(NoFlagLeft, {"writer": "b"}, Desk(("a", ("c", "b"))).change_flag_limit, 1)

    def test_asked_by_the_present_tree(self):
        desk = Desk(TREE)
        desk.write("c", "x")
        desk.dismiss("b")
        desk.flag_limit = 1
        self.fails(NoFlagLeft, {"writer": "c"}, desk.admit, "d", "c")
        desk.flag_limit = 2
        desk.admit("d", "c")
        self.assertEqual(desk.store.plan.tree, ("a", ("c", "d")))

    def test_undo_and_redo_do_not_ask(self):
        desk = Desk(TREE)
        desk.write("c", "x")
        desk.dismiss("b")
        self.assertEqual(desk.store.plan.tree, ("a", "c"))
        desk.change_flag_limit(1)
        desk.undo()
        # The tree is now deeper than the limit.
        self.assertEqual([desk.store.plan.tree, desk.flag_limit], [TREE, 1])
        for limit in [1, 0]:
            self.refused(NoFlagLeft, {"writer": "a"}, desk, desk.change_flag_limit, limit)
        self.refused(NoFlagLeft, {"writer": "c"}, desk, desk.admit, "d", "c")
        desk.write("c", "y")
        desk.undo()
        desk.redo()
        desk.undo()
        desk.undo()
        self.assertEqual([desk.store.plan.tree, desk.flag_limit, desk.newest], [TREE, 1, ("a", "")])

    def test_admit_asks_beside_alone(self):
        desk = Desk(("a", ("b", ("c", "d"))))
        desk.write("a", "x")
        desk.dismiss("d")
        desk.dismiss("c")
        desk.change_flag_limit(2)
        desk.undo()
        desk.undo()
        self.assertEqual([desk.store.plan.tree, desk.flag_limit], [("a", ("b", ("c", "d"))), 2])
        self.refused(NoFlagLeft, {"writer": "b"}, desk, desk.admit, "e", "b")
        self.refused(NoFlagLeft, {"writer": "c"}, desk, desk.change_flag_limit, 2)
        self.assertIsNone(desk.admit("e", "a"))
        self.assertEqual(desk.store.plan.tree, (("a", "e"), ("b", ("c", "d"))))

    def test_change_between_undo_and_redo(self):
        desk = Desk(TREE)
        desk.admit("d", "a")
        desk.undo()
        desk.flag_limit = 2
        desk.redo()
        self.assertEqual([desk.store.plan.tree, desk.flag_limit], [((("a", "d"), "b"), "c"), 2])
        desk.undo()
        self.assertEqual(desk.flag_limit, 2)
        self.fails(NothingToUndo, {}, desk.undo)


class ObeyTest(DeskCase):

    def test_results(self):
        desk = Desk(TREE)
        for line, newest in [
            ("write b one", ("b", "one")), ("cut c 3 two", ("b", "one")), ("cut c 6 two", ("c", "two")), ("undo", ("b", "one")),
            ("redo", ("c", "two")), ("admit d c", ("c", "two")), ("dismiss a", ("c", "two")), ("write d ", ("d", "")),
            ("cut d 0 x", ("d", "")), ("cut d 3 x", ("d", "x")), ("undo", ("d", "")), ("write d  y ", ("d", " y ")),
        ]:
            self.assertEqual(desk.obey(line), newest)
            self.assertEqual(desk.newest, newest)
        self.assertEqual(desk.store.plan.names, ["b", "c", "d"])

    def test_errors(self):
        desk = Desk(TREE, 2)
        desk.write("b", "one")
        desk.write("c", "two")
        desk.undo()
        for line, error, attributes in [
            ("", InvalidLine, {}), ("undo ", InvalidLine, {}), ("write a", InvalidLine, {}), ("cut a 401 x", InvalidLine, {}),
            ("cut a 007 x", InvalidLine, {}), ("write A x", InvalidLine, {}), ("limit 3", InvalidLine, {}),
            ("write zz x", UnknownWriter, {"writer": "zz"}), ("cut zz 400 x", UnknownWriter, {"writer": "zz"}),
            ("cut a 400 x", TooManyTurns, {"most": 4}), ("cut b 4 x", TooManyTurns, {"most": 3}),
            ("admit a zz", DuplicateWriter, {"writer": "a"}), ("admit d zz", UnknownWriter, {"writer": "zz"}),
            ("admit d a", NoFlagLeft, {"writer": "a"}), ("dismiss b", StillTold, {"writer": "b"}),
            ("dismiss d", UnknownWriter, {"writer": "d"}),
        ]:
            self.refused(error, attributes, desk, desk.obey, line)
        desk.obey("redo")
        self.refused(NothingToRedo, {}, desk, desk.obey, "redo")
        desk.obey("undo")
        desk.obey("undo")
        self.refused(NothingToUndo, {}, desk, desk.obey, "undo")

    def drawn_line(self, desk, draw, at):
        writer, other = "abcde"[draw(5)], "abcde"[draw(5)]
        kind = draw(10)
        if kind < 2:
            return f"write {writer} record {at}"
        if kind < 5:
            return f"cut {writer} {draw(16)} record {at}"
        return [f"admit {writer} {other}", f"dismiss {writer}", "undo", "redo", "undo"][kind - 5]

    def test_drawn_rows_of_lines(self):
        made = set()
        for number in range(60):
            desk = Desk(SMALL_TREES[number % len(SMALL_TREES)], 3 + number % 2)
            draw = drawn(number)
            stores, here = [(look(desk), desk.newest)], 0
            for at in range(60):
                line = self.drawn_line(desk, draw, at)
                word, *parts = line.split(" ")
                count = None
                if word in ("write", "cut") and parts[0] in desk.store.plan:
                    count = desk.store.step_count(parts[0], f"record {at}")
                try:
                    found = desk.obey(line)
                except ForkError:
                    self.assertEqual((look(desk), desk.newest), stores[here])
                    self.assertFalse(word == "undo" and here > 0 or word == "redo" and here < len(stores) - 1)
                    continue
                self.assertEqual(found, desk.newest)
                newest = stores[here][1]
                if word in ("undo", "redo"):
                    here += 1 if word == "redo" else -1
                    self.assertGreaterEqual(here, 0)
                    self.assertEqual((look(desk), found), stores[here])
                else:
                    whole = word == "write" or word == "cut" and int(parts[1]) == count
                    newest = (parts[0], f"record {at}") if whole else newest
                    self.assertEqual(found, newest)
                    stores[here + 1:] = [(look(desk), newest)]
                    here += 1
                made.add((word, found == (parts[0] if parts else None, f"record {at}")))
        self.assertTrue(made.issuperset({
            ("write", True), ("cut", True), ("cut", False), ("admit", False), ("dismiss", False), ("undo", False),
            ("redo", False),
        }), made)
