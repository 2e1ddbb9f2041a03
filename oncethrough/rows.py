"""The rows of readers: which tuples are rows, what they name, and their words."""

from oncethrough.words import is_name, is_number, number_in

# What stands behind the first word of each row: a cell, a row to go on with, or a table.
ROW_SHAPES = {
    "read": ("cell",),
    "zero": ("cell",),
    "top": ("cell",),
    "up": ("cell",),
    "copy": ("cell", "cell"),
    "same": ("cell", "cell", "row"),
    "less": ("cell", "cell", "row"),
    "has": ("table", "cell", "row"),
    "link": ("table", "cell", "cell", "row"),
    "jump": ("row",),
    "refuse": (),
    "end": (),
}

# The first words of rows behind which no next row is needed.
LAST_WORDS = ("jump", "refuse", "end")


def is_reader_row(value, cells, rows):
    """True if any value is a row of a reader with so many cells and rows."""
    if not isinstance(value, tuple) or value == () or not isinstance(value[0], str) or value[0] not in ROW_SHAPES:
        return False
    shape = ROW_SHAPES[value[0]]
    if len(value) != len(shape) + 1:
        return False
    return all([is_row_item(kind, item, cells, rows) for item, kind in zip(value[1:], shape)])


def is_row_item(kind, item, cells, rows):
    """True if an item is of this kind."""
    if kind == "table":
        return is_name(item)
    return is_number(item, 0, (cells if kind == "cell" else rows) - 1)


def tables_at(row):
    """The table at which a row looks, with its number of places; an empty dict if it looks at none."""
    places = ROW_SHAPES[row[0]].count("cell")
    return {row[1]: places} if "table" in ROW_SHAPES[row[0]] else {}


def first_wrong_row(rows, cells):
    """The number of the first value that is no row, also by the places of its table, or the number of all of them."""
    places = {}
    for at, row in enumerate(rows):
        if not is_reader_row(row, cells, len(rows)):
            return at
        for name, many in tables_at(row).items():
            if places.get(name, many) != many:
                return at
            places[name] = many
    return len(rows)


def row_in_words(words):
    """The row that these words write, whatever cells and rows there are, or an empty tuple."""
    shape = ROW_SHAPES.get(words[0], ())
    if words[0] not in ROW_SHAPES or len(words) != len(shape) + 1:
        return ()
    items = [word if kind == "table" else number_in(word) for word, kind in zip(words[1:], shape)]
    if not all([is_name(item) if kind == "table" else item >= 0 for item, kind in zip(items, shape)]):
        return ()
    return (words[0], *items)
