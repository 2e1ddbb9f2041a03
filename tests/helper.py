"""What several test files need."""

# Values of the kinds that may be passed where an error is documented.
ODD_VALUES = (-1, 10 ** 14, "", "x y", "\n", True, False, None, (), [], (None,), [1, [2, (3,)]], ((("a",),),))


def raised(call, *args, **named):
    """The error that a call raises."""
    try:
        call(*args, **named)
    except (ValueError, LookupError) as error:
        return error
    raise AssertionError(f"no error from {call} with {args} {named}")


def told(error):
    """The code of an error and its attributes, without the code."""
    attributes = dict(vars(error))
    code = attributes.pop("code")
    return code, attributes
