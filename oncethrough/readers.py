"""Readers: small programs that go through a paper once, and their pages."""

from oncethrough.errors import InvalidCell, InvalidNumber, InvalidStep, InvalidText, TooMany
from oncethrough.rows import LAST_WORDS, first_wrong_row, row_in_words, tables_at
from oncethrough.words import is_number, number_in

MOST_CELLS = 300
MOST_RANGE = 10000
WIDE = 0


def check_cells(cells, inputs):
    """Raises the errors of the cells of a reader."""
    if len(cells) > MOST_CELLS:
        raise TooMany(MOST_CELLS)
    for at, cell in enumerate(cells):
        if not is_number(cell, 0, MOST_RANGE):
            raise InvalidCell(at)
    if not is_number(inputs, 0, len(cells)):
        raise InvalidNumber(inputs)
    for at, cell in enumerate(cells[:inputs]):
        if cell != WIDE:
            raise InvalidCell(at)


def check_steps(rows, cells):
    """Raises the errors of the rows of a reader with so many cells."""
    if len(rows) > Reader.MOST:
        raise TooMany(Reader.MOST)
    wrong = first_wrong_row(rows, cells)
    if wrong < len(rows):
        raise InvalidStep(wrong)
    if len(rows) == 0:
        raise InvalidStep(0)
    if rows[-1][0] not in LAST_WORDS:
        raise InvalidStep(len(rows) - 1)


def table_uses_of(rows):
    """The names of the tables at which rows look, with their numbers of places."""
    uses = [use for row in rows for use in tables_at(row).items()]
    return {name: places for name, places in sorted(uses)}


class Reader:
    """Cells, rows and a number of inputs. A reader never changes."""

    MOST = 10000

    def __init__(self, cells, rows, *, inputs=0):
        check_cells(cells, inputs)
        check_steps(rows, len(cells))
        self.cells = tuple(cells)
        self.rows = tuple(rows)
        self.inputs = inputs
        # Each reading asks for these, and there may be many readings and rows.
        self._tables = table_uses_of(self.rows)

    def tables(self):
        """The names of the tables that occur, with their numbers of places."""
        return {name: self._tables[name] for name in self._tables}

    def page(self):
        """The page of the reader."""
        lines = [f"inputs {self.inputs}", *[f"cell {cell}" for cell in self.cells]]
        return "\n".join([*lines, *[" ".join([str(item) for item in row]) for row in self.rows]])

    @staticmethod
    def read(text):
        """The reader of a page."""
        if not isinstance(text, str):
            raise InvalidText(0)
        lines = [line.split(" ") for line in text.split("\n")]
        inputs = inputs_at_top(lines)
        cells = cells_behind(lines, inputs)
        top = len(cells) + 1
        rows = rows_behind(lines, top)
        try:
            return Reader(cells, rows, inputs=inputs)
        except InvalidStep as error:
            raise InvalidText(top + error.at) from None

    def __eq__(self, other):
        return (isinstance(other, Reader) and self.cells == other.cells and self.rows == other.rows
                and self.inputs == other.inputs)

    def __len__(self):
        return len(self.rows)

    def __repr__(self):
        return f"Reader({len(self.cells)} cells, {len(self.rows)} rows, {self.inputs} inputs)"


def number_behind(words, first, most):
    """The number from 0 to most behind this first word of a line that has nothing else, or -1."""
    if len(words) != 2 or words[0] != first or not is_number(number_in(words[1]), 0, most):
        return -1
    return number_in(words[1])


def inputs_at_top(lines):
    """The number of inputs in line 0 of a page."""
    inputs = number_behind(lines[0], "inputs", MOST_CELLS)
    if inputs < 0:
        raise InvalidText(0)
    return inputs


def cells_behind(lines, inputs):
    """The cells in the lines behind line 0; the first ones, so many, are inputs, if the lines are not over before."""
    cells = []
    for words in lines[1:]:
        if len(cells) >= inputs and words[0] != "cell":
            break
        cell = number_behind(words, "cell", MOST_RANGE)
        if cell < 0 or len(cells) == MOST_CELLS or len(cells) < inputs and cell != WIDE:
            raise InvalidText(len(cells) + 1)
        cells.append(cell)
    return cells


def rows_behind(lines, top):
    """The rows in the lines from this one on, whatever cells and rows they name."""
    rows = []
    for words in lines[top:]:
        row = row_in_words(words)
        if row == () or len(rows) == Reader.MOST:
            raise InvalidText(top + len(rows))
        rows.append(row)
    # Then the lines are over, perhaps even ahead of the last input.
    if rows == []:
        raise InvalidText(len(lines))
    return rows
