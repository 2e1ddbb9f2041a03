"""The errors of the package: each one tells its code and what was wrong."""

# A wrong value is nested eight deep at most; only a wrong saying may be nested deeper, and it is made of tuples.
DEEPEST_COPY = 40


def copied(value, deep=DEEPEST_COPY):
    """The value with new lists in the place of its lists, so that nobody changes them behind an error."""
    if deep == 0:
        return value
    if isinstance(value, list):
        return [copied(item, deep - 1) for item in value]
    if isinstance(value, tuple):
        return tuple([copied(item, deep - 1) for item in value])
    return value


def as_items(value):
    """The items of a list or tuple as a tuple; anything else is the only item."""
    if isinstance(value, (list, tuple)):
        return tuple([copied(item) for item in value])
    return (value,)


class OnceError(ValueError):
    """A wrong value."""

    def __init__(self, code):
        self.code = code


class InvalidNumber(OnceError):
    def __init__(self, given):
        OnceError.__init__(self, "InvalidNumber")
        self.given = copied(given)


class InvalidName(OnceError):
    def __init__(self, given):
        OnceError.__init__(self, "InvalidName")
        self.given = copied(given)


class InvalidTable(OnceError):
    def __init__(self, name):
        OnceError.__init__(self, "InvalidTable")
        self.name = copied(name)


class InvalidRow(OnceError):
    def __init__(self, table, at):
        OnceError.__init__(self, "InvalidRow")
        self.table = table
        self.at = at


class InvalidThings(OnceError):
    def __init__(self, given):
        OnceError.__init__(self, "InvalidThings")
        self.given = as_items(given)


class Unlike(OnceError):
    def __init__(self):
        OnceError.__init__(self, "Unlike")


class InvalidNames(OnceError):
    def __init__(self, given):
        OnceError.__init__(self, "InvalidNames")
        self.given = as_items(given)


class InvalidSaying(OnceError):
    def __init__(self, given):
        OnceError.__init__(self, "InvalidSaying")
        self.given = copied(given)


class InvalidInputs(OnceError):
    def __init__(self, given):
        OnceError.__init__(self, "InvalidInputs")
        self.given = as_items(given)


class Unfit(OnceError):
    def __init__(self, name):
        OnceError.__init__(self, "Unfit")
        self.name = name


class InvalidText(OnceError):
    def __init__(self, line):
        OnceError.__init__(self, "InvalidText")
        self.line = line


class NoPaper(OnceError):
    def __init__(self):
        OnceError.__init__(self, "NoPaper")


class HasPaper(OnceError):
    def __init__(self):
        OnceError.__init__(self, "HasPaper")


class TooLong(OnceError):
    def __init__(self, most):
        OnceError.__init__(self, "TooLong")
        self.most = most


class TooMany(OnceError):
    def __init__(self, most):
        OnceError.__init__(self, "TooMany")
        self.most = most


class InvalidCell(OnceError):
    def __init__(self, at):
        OnceError.__init__(self, "InvalidCell")
        self.at = at


class InvalidStep(OnceError):
    def __init__(self, at):
        OnceError.__init__(self, "InvalidStep")
        self.at = at


class InvalidStop(OnceError):
    def __init__(self, given):
        OnceError.__init__(self, "InvalidStop")
        self.given = copied(given)


class Refused(OnceError):
    def __init__(self):
        OnceError.__init__(self, "Refused")


class InvalidCommand(OnceError):
    def __init__(self, at):
        OnceError.__init__(self, "InvalidCommand")
        self.at = at


class DuplicateName(OnceError):
    def __init__(self, name):
        OnceError.__init__(self, "DuplicateName")
        self.name = name


class Full(OnceError):
    def __init__(self, most):
        OnceError.__init__(self, "Full")
        self.most = most


class NotAccepted(OnceError):
    def __init__(self, name):
        OnceError.__init__(self, "NotAccepted")
        self.name = name


class Missing(LookupError):
    """Something that is not there."""

    def __init__(self, code):
        self.code = code


class UnknownTable(Missing):
    def __init__(self, name):
        Missing.__init__(self, "UnknownTable")
        self.name = copied(name)


class UnknownName(Missing):
    def __init__(self, name):
        Missing.__init__(self, "UnknownName")
        self.name = copied(name)


class NothingLeft(IndexError):
    """There is nothing to undo or redo."""

    def __init__(self):
        self.code = "NothingLeft"
