"""The desk: a store that is led while writers come and go, with undo and redo."""

from forkflags.commands import parse_line
from forkflags.errors import NoFlagLeft, NothingToRedo, NothingToUndo
from forkflags.forkplan import ForkPlan
from forkflags.moves import admitted, dismissed
from forkflags.store import Store


class Desk:
    """A store of a fork plan that deeds change."""

    MOST_STEPS = 400

    def __init__(self, tree, flag_limit=12):
        # A deed makes a new store and never changes an old one, so the old ones are kept for undo and redo.
        self.store = Store(ForkPlan(tree))
        self._undoable = []
        self._redoable = []
        self.change_flag_limit(flag_limit)

    @property
    def newest(self):
        """The newest pair of the present store."""
        return self.store.newest

    @property
    def flag_limit(self):
        """The greatest number of flags of a writer that a deed may lead to."""
        return self._flag_limit

    @flag_limit.setter
    def flag_limit(self, value):
        self.change_flag_limit(value)

    def change_flag_limit(self, limit):
        """Set the limit, if no writer is deeper."""
        plan = self.store.plan
        for name in plan.names:
            if len(plan.cells_of(name)) > limit:
                raise NoFlagLeft(name)
        self._flag_limit = limit

    def write(self, writer, text, steps=None):
        """Write a record as the store does, and return the number of steps made."""
        after = self.store.twin()
        made = after.write(writer, text, steps)
        self._keep(after)
        return made

    def admit(self, writer, beside):
        """Take in a writer beside another one."""
        self.batch([("admit", writer, beside)])

    def dismiss(self, writer):
        """Remove a writer that is not told."""
        self.batch([("dismiss", writer)])

    def batch(self, deeds):
        """Make a list of deeds as one deed, all or none, and return their number."""
        after = self.store
        for deed in deeds:
            after = self._after_deed(after, deed)
        if deeds:
            self._keep(after)
        return len(deeds)

    def _after_deed(self, store, deed):
        """Return the store that the deed leads to; the desk and the store given stay as they are."""
        if deed[0] == "admit":
            return self._after_admit(store, deed[1], deed[2])
        if deed[0] == "dismiss":
            plan, state = dismissed(store.plan, store.state, deed[1])
            return store.moved(plan, state)
        after = store.twin()
        after.write(deed[1], deed[2], deed[3] if deed[0] == "cut" else None)
        return after

    def _after_admit(self, store, writer, beside):
        plan, state = admitted(store.plan, store.state, writer, beside)
        if len(plan.cells_of(beside)) > self._flag_limit:
            raise NoFlagLeft(beside)
        return store.moved(plan, state)

    def _keep(self, after):
        """Make this the present store, by a deed."""
        self._undoable.append(self.store)
        self._redoable.clear()
        self.store = after

    def undo(self):
        """Go back to the store before the last deed that has not been undone."""
        if not self._undoable:
            raise NothingToUndo("there is no deed that has not been undone")
        self._redoable.append(self.store)
        self.store = self._undoable.pop()

    def redo(self):
        """Go forward again by one undone deed."""
        if not self._redoable:
            raise NothingToRedo("there is no undone deed")
        self._undoable.append(self.store)
        self.store = self._redoable.pop()

    def obey(self, line):
        """Do what a line commands, and return the newest pair after it."""
        deed = parse_line(line)
        if deed[0] == "undo":
            self.undo()
        elif deed[0] == "redo":
            self.redo()
        else:
            self.batch([deed])
        return self.newest
