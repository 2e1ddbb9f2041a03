"""Names and numbers, as values and as words of a text."""

LETTERS = "abcdefghijklmnopqrstuvwxyz"
DIGITS = "0123456789"
LONGEST_NAME = 6
LONGEST_NUMBER = 15


def is_name(value):
    """True if any value is a name: 1 to 6 lowercase letters."""
    if not isinstance(value, str) or not 1 <= len(value) <= LONGEST_NAME:
        return False
    return all([letter in LETTERS for letter in value])


def is_number(value, least, most):
    """True if any value is a number from least to most; True and False are no numbers."""
    return isinstance(value, int) and not isinstance(value, bool) and least <= value <= most


def number_in(word):
    """The number that this word writes, without sign and leading zeros, or -1 if it writes none."""
    if not 1 <= len(word) <= LONGEST_NUMBER or not all([sign in DIGITS for sign in word]):
        return -1
    if word[0] == "0" and word != "0":
        return -1
    return int(word)
