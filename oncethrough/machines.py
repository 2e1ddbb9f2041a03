"""Machines: readers on stores, which run from one stop to the next one."""

from oncethrough.fitting import check_fits, check_inputs
from oncethrough.forms import LOOKS
from oncethrough.readers import WIDE
from oncethrough.words import is_number

STOPS = ("read", "end")

# A row and cells to which no machine comes.
NOWHERE = (-1, ())

# So many rows are run before the first look whether the machine came round; the next look comes behind twice as many.
FIRST_STRETCH = 64


class Machine:
    """A reader on a store that fits it."""

    def __init__(self, reader, store):
        check_fits(store, reader.tables())
        self.reader = reader
        self.store = store
        self.tops = tuple([store.size if cell == WIDE else cell - 1 for cell in reader.cells])
        self._tables = {name: {row: True for row in store.rows_of(name)} for name in reader.tables()}

    def cells_for(self, inputs):
        """The numbers in the cells at the beginning, a list; raises InvalidInputs."""
        check_inputs(self.store, inputs, self.reader.inputs)
        return [*inputs, *[0 for _ in self.tops[self.reader.inputs:]]]

    def word_at(self, at):
        """The first word of a row."""
        return self.reader.rows[at][0]

    def is_stop(self, at, cells):
        """True if any values are the number of a read or end row, and a list or tuple of what the cells can hold."""
        if not is_number(at, 0, len(self.reader.rows) - 1) or self.word_at(at) not in STOPS:
            return False
        if not isinstance(cells, (list, tuple)) or len(cells) != len(self.tops):
            return False
        return all([is_number(number, 0, top) for number, top in zip(cells, self.tops)])

    def many_marks(self, at):
        """A read takes the marks from 0 on, so many; an end takes none."""
        if self.word_at(at) == "end":
            return 0
        cell = self.reader.rows[at][1]
        return self.store.size if self.reader.cells[cell] == WIDE else self.reader.cells[cell]

    def kind_of(self, at, cells):
        """What the runs behind a stop hang on, beside the mark: the row, and the numbers that the mark leaves."""
        if self.word_at(at) == "end":
            return (at,)
        cell = self.reader.rows[at][1]
        return (at, *cells[:cell], *cells[cell + 1:])

    def take(self, at, cells, mark, looks):
        """Takes a mark at a stop and runs on, as run does; the cells that are passed stay as they are."""
        held = list(cells)
        held[self.reader.rows[at][1]] = mark
        return self.run(at + 1, held, looks)

    def run(self, at, cells, looks):
        """Runs from a row to a stop, or until it refuses; puts its looks into looks, a dict, unless that is None.

        Returns why it refuses, or an empty string, the row, and the cells as a tuple. Changes the list of cells.
        """
        start = (at, list(cells))
        marked = start
        most = FIRST_STRETCH
        while True:
            at, many, word = self._go(at, cells, looks, marked, most)
            if word == "round":
                return self._first_again(start, many)
            if word != "":
                why = "" if word == "stop" else word
                return why, at, tuple(cells)
            marked = (at, list(cells))
            most *= 2

    def step(self, at, cells):
        """Does one row, other than a read, in a list of cells; returns the next row, or -1 if none follows."""
        at, many, _ = self._go(at, cells, None, NOWHERE, 1)
        return at if many == 1 else -1

    def _first_again(self, start, many):
        """Why, the row and the cells where it first comes round, so many rows behind the same place."""
        ahead, held = start[0], list(start[1])
        ahead = self._go(ahead, held, None, NOWHERE, many)[0]
        at, cells = start[0], list(start[1])
        while at != ahead or cells != held:
            at = self._go(at, cells, None, NOWHERE, 1)[0]
            ahead = self._go(ahead, held, None, NOWHERE, 1)[0]
        return "round", at, tuple(cells)

    def _go(self, at, cells, looks, marked, most):
        """Does at most so many rows, until it stops, refuses, or comes to the marked row with the marked cells.

        Returns the row, how many rows were done, and "stop", "round" or why it refuses, or an empty string.
        """
        rows, tops = self.reader.rows, self.tops
        for many in range(most):
            row = rows[at]
            word = row[0]
            if word == "same":
                at = at + 1 if cells[row[1]] == cells[row[2]] else row[3]
            elif word == "less":
                at = at + 1 if cells[row[1]] < cells[row[2]] else row[3]
            elif word == "jump":
                at = row[1]
            elif word in STOPS:
                return at, many, "stop"
            elif word == "refuse":
                return at, many, "refuse"
            elif word in LOOKS:
                things = tuple([cells[cell] for cell in row[2:-1]])
                if max(things) >= self.store.size:
                    return at, many, "thing"
                at = at + 1 if self._look(row[1], things, looks) else row[-1]
            else:
                number = number_for(row, cells, tops)
                if number > tops[row[1]]:
                    return at, many, "range"
                cells[row[1]] = number
                at += 1
            if at == marked[0] and cells == marked[1]:
                return at, many + 1, "round"
        return at, most, ""

    def _look(self, table, things, looks):
        """True if the table has the row of these things."""
        answer = things in self._tables[table]
        if looks is not None:
            looks[(table, things, answer)] = True
        return answer


def number_for(row, cells, tops):
    """The number that zero, top, up or copy puts into its cell, if it can hold it."""
    if row[0] == "zero":
        return 0
    if row[0] == "up":
        return cells[row[1]] + 1
    if row[0] == "copy":
        return cells[row[2]]
    return tops[row[1]]
