"""Readers of a fork plan that look at one flag after another while updates run."""

from forkflags.trees import forks_of, ways_of


def scan(plan, moments, *, first=0, gaps=()):
    """Make one scan, and return its answer and its looks, each a pair (index of the flag, moment)."""
    leaves = {way: name for name, way in ways_of(plan.tree).items()}
    looks = []
    now = first
    way = ""
    while way not in leaves:
        board = 0
        for index in plan.flags_at(way):
            if len(looks) < len(gaps):
                now = min(now + gaps[len(looks)], len(moments) - 1)
            looks.append((index, now))
            board = _board_with(board, moments[now], index)
        way = way + str(board)
    return (leaves[way], looks)


def _board_with(board, moment, index):
    """Return the board after a look at one more flag at this moment."""
    state, _ = moment
    return (board + state[index]) % 2


def scan_answers(plan, moments, first=0):
    """List the answers of all scans that begin at this moment."""
    return _answers(plan, moments, first, _scanned_boards)


def board_answers(plan, moments, first=0):
    """List the answers of all readers that look at all flags of a fork at one moment."""
    return _answers(plan, moments, first, _true_boards)


def _answers(plan, moments, first, boards_at):
    """List the answers of all readers that begin at this moment and see what boards_at finds at a fork."""
    # A reader that comes to a fork earlier can wait, so the earliest moment tells all that can follow.
    reached = {"": first}
    for fork in forks_of(plan.tree):
        if fork in reached:
            boards = boards_at(plan, moments, fork, reached[fork])
            for board in boards:
                reached[fork + str(board)] = boards[board]
    ways = ways_of(plan.tree)
    return [name for name in plan.names if ways[name] in reached]


def _scanned_boards(plan, moments, fork, first):
    """Return, for each board that single looks can give from this moment on, when the last look is at the earliest."""
    boards = {0: first}
    for index in plan.flags_at(fork):
        after = {}
        for board in boards:
            for now in range(boards[board], len(moments)):
                seen = _board_with(board, moments[now], index)
                after[seen] = min(now, after.get(seen, now))
        boards = after
    return boards


def _true_boards(plan, moments, fork, first):
    """Return, for each board that the fork has from this moment on, when it has it at the earliest."""
    boards = {}
    for now in range(first, len(moments)):
        state, _ = moments[now]
        boards.setdefault(plan.board(state, fork), now)
    return boards


def excuse(plan, moments, first, last, answer):
    """Say when the answer was told from the first moment to the last, or else when it made a turn, or None."""
    for now in range(first, last + 1):
        if plan.told(moments[now][0]) == answer:
            return ("told", now)
    for now in range(first + 1, last + 1):
        if moments[now][1] == answer:
            return ("turned", now)
    return None
