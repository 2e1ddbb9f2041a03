"""Stores: a few things and tables of rows over them, and their pages."""

from oncethrough.errors import InvalidNumber, InvalidRow, InvalidTable, InvalidText, InvalidThings
from oncethrough.errors import TooMany, UnknownTable, Unlike
from oncethrough.words import is_name, is_number, number_in

MOST_TABLES = 4
MOST_PLACES = 2


def is_table(value):
    """True if any value is a tuple of a number of places and a list of what may be rows."""
    if not isinstance(value, tuple) or len(value) != 2:
        return False
    return is_number(value[0], 1, MOST_PLACES) and isinstance(value[1], (list, tuple))


def is_row(value, places, size):
    """True if any value is a row with so many places, in a store of this size."""
    if not isinstance(value, tuple) or len(value) != places:
        return False
    return all([is_number(thing, 0, size - 1) for thing in value])


def check_rows(name, table, size):
    """Raises InvalidRow for the first row of the table that is none, or stands there twice."""
    places, rows = table
    seen = {}
    for at, row in enumerate(rows):
        if not is_row(row, places, size) or row in seen:
            raise InvalidRow(name, at)
        seen[row] = True


def odd_rows(one, other):
    """The rows that exactly one of the two dicts has."""
    return [row for row in one if row not in other] + [row for row in other if row not in one]


class Store:
    """A size and tables. A store never changes: put and drop return another one."""

    MOST = 8

    def __init__(self, size, tables):
        if not is_number(size, 1, Store.MOST):
            raise InvalidNumber(size)
        if len(tables) > MOST_TABLES:
            raise TooMany(MOST_TABLES)
        for name in tables:
            if not is_name(name) or not is_table(tables[name]):
                raise InvalidTable(name)
        for name in sorted(tables):
            check_rows(name, tables[name], size)
        self.size = size
        self._places = {name: tables[name][0] for name in sorted(tables)}
        self._rows = {name: {row: True for row in sorted(tables[name][1])} for name in sorted(tables)}

    def tables(self):
        """The names of the tables, ascending."""
        return list(self._places)

    def places(self, name):
        """The number of places of a table."""
        self._check_table(name)
        return self._places[name]

    def rows_of(self, name):
        """The rows of a table, ascending."""
        self._check_table(name)
        return list(self._rows[name])

    def holds(self, name, *things):
        """True if the table has the row of these things."""
        self._check_things(name, things)
        return things in self._rows[name]

    def put(self, name, *things):
        """Another store, with this row."""
        self._check_things(name, things)
        return self._with_rows(name, [row for row in self._rows[name] if row != things] + [things])

    def drop(self, name, *things):
        """Another store, without this row."""
        self._check_things(name, things)
        return self._with_rows(name, [row for row in self._rows[name] if row != things])

    def within(self, other):
        """True if the other store is like this one and has each of its rows."""
        if not self._is_like(other):
            return False
        return all([row in other._rows[name] for name in self._rows for row in self._rows[name]])

    def page(self):
        """The page of the store."""
        lines = [f"things {self.size}"]
        for name in self._places:
            lines.append(f"table {name} {self._places[name]}")
            for row in self._rows[name]:
                lines.append(" ".join(["row", *[str(thing) for thing in row]]))
        return "\n".join(lines)

    @staticmethod
    def read(text):
        """The store of a page."""
        if not isinstance(text, str):
            raise InvalidText(0)
        lines = text.split("\n")
        store, used = store_at_top(lines)
        if used < len(lines):
            raise InvalidText(used)
        return store

    def __xor__(self, other):
        if not self._is_like(other):
            raise Unlike()
        odd = {name: odd_rows(self._rows[name], other._rows[name]) for name in self._rows}
        return Store(self.size, {name: (self._places[name], odd[name]) for name in odd})

    def __eq__(self, other):
        return (isinstance(other, Store) and self.size == other.size
                and self._places == other._places and self._rows == other._rows)

    def __len__(self):
        return len([row for name in self._rows for row in self._rows[name]])

    def __repr__(self):
        return f"Store({self.size} things, {len(self._places)} tables, {len(self)} rows)"

    def _is_like(self, other):
        """True if the sizes, names and places are equal."""
        return self.size == other.size and self._places == other._places

    def _check_table(self, name):
        # What is no name may also be no key, so the dict is not asked for it.
        if not is_name(name) or name not in self._places:
            raise UnknownTable(name)

    def _check_things(self, name, things):
        self._check_table(name)
        if not is_row(things, self._places[name], self.size):
            raise InvalidThings(things)

    def _with_rows(self, name, rows):
        """Another store, in which this table has these rows."""
        tables = {each: (self._places[each], list(self._rows[each])) for each in self._places}
        tables[name] = (self._places[name], rows)
        return Store(self.size, tables)


def size_in(words):
    """The size that the words of the first line of a page tell, or 0 if they tell none."""
    if len(words) != 2 or words[0] != "things" or not is_number(number_in(words[1]), 1, Store.MOST):
        return 0
    return number_in(words[1])


def is_next_table(words, names):
    """True if these words begin a table that may stand behind the tables of these names."""
    if len(words) != 3 or words[0] != "table" or len(names) == MOST_TABLES:
        return False
    if not is_name(words[1]) or not is_number(number_in(words[2]), 1, MOST_PLACES):
        return False
    return names == [] or names[-1] < words[1]


def is_next_row(words, table, size):
    """True if these words are a row that may stand behind the rows of the table so far."""
    places, rows = table
    row = row_in(words)
    return words[0] == "row" and is_row(row, places, size) and (rows == [] or rows[-1] < row)


def row_in(words):
    """The numbers behind the first word, with -1 for what is no number."""
    return tuple([number_in(word) for word in words[1:]])


def store_at_top(lines):
    """The store whose page begins at line 0, and the number of the first line that does not belong to it."""
    size = size_in(lines[0].split(" "))
    if size == 0:
        raise InvalidText(0)
    tables = {}
    names = []
    at = 1
    while at < len(lines):
        words = lines[at].split(" ")
        if is_next_table(words, names):
            names.append(words[1])
            tables[words[1]] = (number_in(words[2]), [])
        elif names != [] and is_next_row(words, tables[names[-1]], size):
            tables[names[-1]][1].append(row_in(words))
        else:
            break
        at += 1
    return Store(size, tables), at
