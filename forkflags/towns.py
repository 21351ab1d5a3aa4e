"""Towns: writers live in houses, and houses stand in halls within halls."""

from forkflags.errors import InvalidTown, UnknownHall, UnknownWriter
from forkflags.naming import is_name

MOST_NESTED = 6
MOST_NEIGHBOURS = 8


def is_town(value):
    """Tell whether the value is a town."""
    names = []
    waiting = [(value, 1)]
    while waiting:
        hall, depth = waiting.pop()
        if not isinstance(hall, tuple) or depth > MOST_NESTED:
            return False
        if is_house(hall):
            names.extend(hall)
            # A wrong value can share its halls and so have very many, so the search ends early.
            if len(names) > MOST_NEIGHBOURS or len(set(names)) < len(names):
                return False
        elif len(hall) < 2:
            return False
        else:
            waiting.extend([(entry, depth + 1) for entry in hall])
    return True


def is_house(hall):
    """Tell whether the entries of this tuple are one or more names."""
    return len(hall) > 0 and all([is_name(entry) for entry in hall])


def named_halls(town):
    """List (name, hall) for each hall; it comes before the halls inside it, in the order of the entries."""
    if not is_town(town):
        raise InvalidTown("not a town")
    return _named_from("", town)


def _named_from(name, hall):
    found = [(name, hall)]
    if not is_house(hall):
        for index, entry in enumerate(hall):
            found.extend(_named_from(name + str(index), entry))
    return found


def halls_of(town):
    """List the names of all halls."""
    return [name for name, _ in named_halls(town)]


def houses_of(town):
    """List the names of the houses."""
    return [name for name, hall in named_halls(town) if is_house(hall)]


def town_names(town):
    """List the writers of the town, ascending."""
    return sorted([name for _, hall in named_halls(town) if is_house(hall) for name in hall])


def house_of(town, writer):
    """Return the name of the house of the writer."""
    for house in houses_of(town):
        if writer in hall_at(town, house):
            return house
    raise UnknownWriter(writer)


def hall_at(town, hall):
    """Return the hall with this name, a tuple."""
    for name, found in named_halls(town):
        if name == hall:
            return found
    raise UnknownHall(hall)


def counts_above(town, house):
    """List the numbers of entries of the halls above the house, from the town inwards."""
    if house not in houses_of(town):
        raise UnknownHall(house)
    return [len(hall_at(town, house[:level])) for level in range(len(house))]


def ways_to(town, house):
    """Return the product of the numbers of entries of the halls above the house."""
    ways = 1
    for count in counts_above(town, house):
        ways = ways * count
    return ways
