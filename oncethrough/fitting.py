"""Whether a store has the tables that are asked for, and whether inputs are things of it."""

from oncethrough.errors import InvalidInputs, Unfit
from oncethrough.stores import is_row


def check_fits(store, tables):
    """Raises Unfit for the first of these tables that the store lacks or has with another number of places."""
    names = store.tables()
    for name in sorted(tables):
        if name not in names or store.places(name) != tables[name]:
            raise Unfit(name)


def check_inputs(store, inputs, many):
    """Raises InvalidInputs unless any value is a list or tuple of so many things of the store."""
    if not isinstance(inputs, (list, tuple)) or not is_row(tuple(inputs), many, store.size):
        raise InvalidInputs(inputs)
