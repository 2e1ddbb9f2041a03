"""What several test files need."""

# Values of the kinds that may be passed where an error is documented.
ODD_VALUES = (-1, 10 ** 14, "", "x y", "\n", True, False, None, (), [], (None,), [1, [2, (3,)]], ((("a",),),))


def raised(call, *args, **named):
    """The error that a call raises."""
    try:
        call(*args, **named)
    except (ValueError, LookupError) as error:
        return error
    raise AssertionError(f"no error from {call} with {args} {named}")


def told(error):
    """The code of an error and its attributes, without the code."""
    attributes = dict(vars(error))
    code = attributes.pop("code")
    return code, attributes


def plain(store):
    """A store as the second way of writing things out takes it."""
    return store.size, {name: set(store.rows_of(name)) for name in store.tables()}


def mutants(marks, size):
    """Lists that come from these marks by one mark changed, left out, put in or doubled."""
    found = []
    for at in range(len(marks) + 1):
        for mark in range(size + 1):
            found.append([*marks[:at], mark, *marks[at:]])
    for at, old in enumerate(marks):
        found.append([*marks[:at], *marks[at + 1:]])
        for mark in (*range(size + 1), -1):
            if mark != old:
                found.append([*marks[:at], mark, *marks[at + 1:]])
    return found
