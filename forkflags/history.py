"""Runs: updates that are made one after another, whole or cut."""

from forkflags.errors import InvalidEvent


def run(plan, state, events):
    """Return the state after a list of events."""
    return moments_of(plan, state, events)[-1][0]


def last_whole(plan, state, events):
    """Return the writer of the last whole event, or None."""
    whole = [writer for writer, many, made in _made_events(plan, state, events) if len(made) == many]
    return whole[-1] if whole else None


def moments_of(plan, state, events):
    """List the moments of a run: pairs of a state and the writer whose turn led to it."""
    moments = [(state, None)]
    for writer, _, made in _made_events(plan, state, events):
        for turn in made:
            moments.append((plan.turned(moments[-1][0], [turn]), writer))
    return moments


def _made_events(plan, state, events):
    """List, for each event, its writer, the number of turns of its update, and the turns that it makes."""
    plan.check_state(state)
    found = []
    now = state
    for index, (writer, done) in enumerate(events):
        turns = plan.turns(now, writer)
        if done is not None and done > len(turns):
            raise InvalidEvent(index)
        made = turns if done is None else turns[:done]
        now = plan.turned(now, made)
        found.append((writer, len(turns), made))
    return found


class History:
    """A run that goes on."""

    def __init__(self, plan, state=None):
        first = plan.start() if state is None else state
        plan.check_state(first)
        self.plan = plan
        self.first = first
        self.state = first
        self.events = []

    def write(self, writer, done=None):
        """Make an event, and return the number of turns that it made."""
        turns = self.plan.turns(self.state, writer)
        self.state = self.plan.updated(self.state, writer, done)
        self.events.append((writer, done))
        return len(turns) if done is None else done

    @property
    def reading(self):
        """The told writer of the present state."""
        return self.plan.told(self.state)

    def each_moment(self):
        """Yield the moments of the history, from moment 0 on."""
        for moment in moments_of(self.plan, self.first, self.events):
            yield moment

    def __len__(self):
        return len(self.events)
