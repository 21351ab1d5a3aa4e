"""Names of writers and values."""

from forkflags.errors import DuplicateWriter, InvalidName, TooMany

MOST_LETTERS = 8
MOST_WRITERS = 12


def is_name(value):
    """Tell whether the value is a string of 1 to 8 letters from a to z."""
    if not isinstance(value, str) or not 1 <= len(value) <= MOST_LETTERS:
        return False
    return all(["a" <= letter <= "z" for letter in value])


def check_names(names):
    """Raise an error at the first entry that is not a name or stood before."""
    seen = set()
    for name in names:
        if not is_name(name):
            raise InvalidName(name)
        if name in seen:
            raise DuplicateWriter(name)
        seen.add(name)


def check_keys(table):
    """Raise an error for the least key of a dict that is not a name."""
    wrong = [key for key in table if not is_name(key)]
    if wrong:
        raise InvalidName(min(wrong))


def check_few_names(names):
    """Raise an error if there are more names than a tree may have, then those of check_names."""
    if len(names) > MOST_WRITERS:
        raise TooMany(MOST_WRITERS)
    check_names(names)
