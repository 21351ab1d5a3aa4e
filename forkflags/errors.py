"""The errors of the program. Every error derives directly from ForkError."""


class ForkError(ValueError):
    """The base class of all errors."""


class InvalidName(ForkError):
    """A value that should be a name is none."""

    def __init__(self, name):
        self.name = name


class InvalidShare(ForkError):
    """A share has a negative top or a bottom less than one."""


class InvalidTree(ForkError):
    """A value that should be a tree is none."""


class InvalidText(ForkError):
    """A text is not the written form of a tree, from this position on."""

    def __init__(self, position):
        self.position = position


class InvalidBudget(ForkError):
    """The budget of a writer is outside its limits."""

    def __init__(self, writer):
        self.writer = writer


class SumTooGreat(ForkError):
    """A sum of shares is more than one."""

    def __init__(self, total):
        self.total = total


class UnknownWriter(ForkError):
    """There is no such writer."""

    def __init__(self, writer):
        self.writer = writer


class DuplicateWriter(ForkError):
    """A writer that may stand once stands twice."""

    def __init__(self, writer):
        self.writer = writer


class UnknownFork(ForkError):
    """There is no such fork."""

    def __init__(self, fork):
        self.fork = fork


class UnknownHall(ForkError):
    """There is no such hall."""

    def __init__(self, hall):
        self.hall = hall


class InvalidState(ForkError):
    """There is no such state, number, mark or cell."""


class TooManyTurns(ForkError):
    """More turns or steps are asked for than there are."""

    def __init__(self, most):
        self.most = most


class InvalidEvent(ForkError):
    """The event with this index cannot be made."""

    def __init__(self, index):
        self.index = index


class TooMany(ForkError):
    """There are more things than this."""

    def __init__(self, most):
        self.most = most


class LastWriter(ForkError):
    """The only writer cannot be removed."""


class UnlikePlans(ForkError):
    """Two plans have different cells."""


class InvalidSizes(ForkError):
    """The size or the ring of a writer is missing or outside its limits."""

    def __init__(self, writer):
        self.writer = writer


class NoRight(ForkError):
    """A writer may not put this value."""

    def __init__(self, writer):
        self.writer = writer


class InvalidTown(ForkError):
    """A value that should be a town is none."""


class InvalidTable(ForkError):
    """A table is not of the form that is asked for."""


class NoStory(ForkError):
    """The diaries do not belong to a run; so many entries are left."""

    def __init__(self, left):
        self.left = left


class InvalidRecord(ForkError):
    """A text that should be a record is none."""


class InvalidImage(ForkError):
    """A list of lines is not the image of a store, from this line on."""

    def __init__(self, line):
        self.line = line


class StillTold(ForkError):
    """The told writer cannot be dismissed."""

    def __init__(self, writer):
        self.writer = writer


class NoFlagLeft(ForkError):
    """A writer would need more flags than the limit allows."""

    def __init__(self, writer):
        self.writer = writer


class NothingToUndo(ForkError):
    """There is no deed to undo."""


class NothingToRedo(ForkError):
    """There is no deed to redo."""


class InvalidLine(ForkError):
    """A line is not a command."""
