"""Dial codes: a pair (value, copy) that every writer can set by its own dial alone."""

from math import lcm

from forkflags.errors import InvalidSizes, InvalidState, NoRight, SumTooGreat, UnknownWriter
from forkflags.naming import check_keys
from forkflags.packing import is_size, is_state
from forkflags.shares import Share, add_shares


class DialCode:
    """Dials whose position, a sum of their marks, lies in the arc of the pair that is stored."""

    def __init__(self, sizes, rights, copies=1):
        check_keys(sizes)
        names = sorted(sizes)
        for name in names:
            if not is_size(sizes[name]):
                raise InvalidSizes(name)
        least = _least_sizes(names, sizes, rights)
        shares = [Share(copies, size) for size in list(least.values())]
        total = add_shares(*shares)
        if not total.at_most(Share(1)):
            raise SumTooGreat(total)
        self.names = names
        self.sizes = [sizes[name] for name in names]
        self.span = _common_multiple(self.sizes)
        self.total = total
        self._rights = {name: list(rights[name]) for name in names}
        self._copies = copies
        self._arcs = self._arcs_of(least)

    def _arcs_of(self, least):
        """Return, for each value, where its first arc begins and how long each of its arcs is."""
        arcs = {}
        begin = 0
        for value, size in least.items():
            length = self.span // size
            arcs[value] = (begin, length)
            begin = begin + self._copies * length
        return arcs

    def _check_marks(self, marks):
        if not is_state(marks, self.sizes):
            raise InvalidState("not a state of the dials")

    def _position(self, marks):
        steps = [mark * (self.span // size) for mark, size in zip(marks, self.sizes)]
        return sum(steps) % self.span

    def pair_shown(self, marks):
        """Return the pair whose arc holds the position, or the first pair if no arc does."""
        self._check_marks(marks)
        position = self._position(marks)
        for value, (begin, length) in self._arcs.items():
            copy = (position - begin) // length
            if 0 <= copy < self._copies:
                return (value, copy)
        return (list(self._arcs)[0], 0)

    def mark_for(self, marks, writer, value, copy):
        """Return the least mark of this writer's dial that brings the position into the arc of the pair."""
        self._check_marks(marks)
        if writer not in self.names:
            raise UnknownWriter(writer)
        if value not in self._rights[writer]:
            raise NoRight(writer)
        begin, length = self._arcs[value]
        at = self.names.index(writer)
        step = self.span // self.sizes[at]
        # How far the position lies behind the begin of the arc while this dial is at mark 0.
        ahead = self._position(marks) - marks[at] * step - begin - copy * length
        return min([mark for mark in range(self.sizes[at]) if (ahead + mark * step) % self.span < length])


def _least_sizes(names, sizes, rights):
    """Return, for each value in ascending order, the least size of the dials that may put it."""
    values = sorted(set([value for name in names for value in rights[name]]))
    return {value: min([sizes[name] for name in names if value in rights[name]]) for value in values}


def _common_multiple(sizes):
    """Return the least common multiple of all sizes."""
    span = 1
    for size in sizes:
        span = lcm(span, size)
    return span
