"""Commands: lines that a desk obeys."""

from forkflags.errors import InvalidLine
from forkflags.lines import is_record, read_number
from forkflags.naming import is_name

# This is the number that Desk.MOST_STEPS shows to callers.
STEPS_LIMIT = 400

# For each word that begins a line, what stands behind it.
FORMS = {
    "write": ("NAME", "TEXT"), "cut": ("NAME", "STEPS", "TEXT"), "admit": ("NAME", "NAME"), "dismiss": ("NAME",),
    "undo": (), "redo": (),
}


def parse_line(line):
    """Read a command."""
    word = line.split(" ")[0]
    if word not in FORMS:
        raise InvalidLine("no command begins so")
    forms = FORMS[word]
    # A text is all that is left, spaces included, so the line is not split further.
    parts = line.split(" ", len(forms))
    if parts[0] != word or len(parts) != 1 + len(forms):
        raise InvalidLine("a part of the command is missing, or there is more than the command")
    if not all([_has_form(part, form) for part, form in zip(parts[1:], forms)]):
        raise InvalidLine("a part of the command is not as it should be")
    if word == "cut":
        return ("cut", parts[1], parts[3], read_number(parts[2], STEPS_LIMIT + 1))
    return tuple(parts)


def _has_form(part, form):
    if form == "NAME":
        return is_name(part)
    if form == "STEPS":
        return read_number(part, STEPS_LIMIT + 1) is not None
    return is_record(part)


def format_line(deed):
    """Write a command."""
    if deed[0] == "cut":
        _, writer, text, steps = deed
        return f"cut {writer} {steps} {text}"
    return " ".join(deed)
