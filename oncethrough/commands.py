"""Commands: the forms of what a shelf is told to do."""

NAMED = ("again", "forget")
CLAIM_ITEMS = 5


def is_command(value):
    """True if any value is a tuple of a form of a command; T, names and things may be any values."""
    if not isinstance(value, tuple) or value == () or not isinstance(value[0], str):
        return False
    if value[0] in ("put", "drop"):
        return len(value) > 1
    if value[0] in NAMED:
        return len(value) == 2
    return value[0] == "claim" and len(value) == CLAIM_ITEMS and is_paper_form(value[2], value[3], value[4])


def is_paper_form(text, inputs, marks):
    """True if any values are a string, a tuple, and a tuple of numbers."""
    if not isinstance(text, str) or not isinstance(inputs, tuple) or not isinstance(marks, tuple):
        return False
    return all([isinstance(mark, int) and not isinstance(mark, bool) for mark in marks])
