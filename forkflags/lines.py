"""What lines of text are made of: records and numbers."""

MOST_SIGNS = 200


def is_record(value):
    """Tell whether the value is a string of at most 200 characters from the space to ~."""
    if not isinstance(value, str) or len(value) > MOST_SIGNS:
        return False
    return all([" " <= sign <= "~" for sign in value])


def read_number(text, count):
    """Return the number from 0 to count - 1 that the text writes without leading zeros, or None."""
    written = [str(number) for number in range(count)]
    return written.index(text) if text in written else None
