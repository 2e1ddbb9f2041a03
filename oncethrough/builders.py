"""Builders: readers in the making, whose rows name spots as long as the numbers of the rows are not known."""

from oncethrough.readers import WIDE, Reader
from oncethrough.rows import ROW_SHAPES

BIT = 2


class Builder:
    """The cells and rows so far, of a reader with so many inputs."""

    def __init__(self, inputs):
        self._inputs = inputs
        self._cells = [*[WIDE for _ in range(inputs)], BIT]
        self._bit = inputs
        self._tops = {}
        self._rows = []
        # For each spot the number of its row.
        self._spots = []
        # A row that refuses stands here.
        self.wrong = self.spot()

    def cell(self, reach):
        """A new cell of this range."""
        self._cells.append(reach)
        return len(self._cells) - 1

    def top(self, reach):
        """A cell that always holds the greatest number of this range."""
        if reach not in self._tops:
            self._tops[reach] = self.cell(reach)
        return self._tops[reach]

    def constant(self, number):
        """A cell that always holds this number."""
        return self.top(number + 1)

    def size_cell(self):
        """A cell that always holds the size of the store."""
        return self.top(WIDE)

    def spot(self):
        """A new spot, whose place comes later."""
        self._spots.append(-1)
        return len(self._spots) - 1

    def here(self, spot):
        """The spot is at the next row."""
        self._spots[spot] = len(self._rows)

    def write(self, *rows):
        """Writes rows, with a spot in the place of a row to go on with."""
        self._rows.extend(rows)

    def check(self, row, wanted):
        """Writes a row that lacks the row to go on with; refuses if what it asks for is not so, or is, as wanted."""
        if wanted:
            self.write((*row, self.wrong))
            return
        right = self.spot()
        self.write((*row, right), ("refuse",))
        self.here(right)

    def ask(self, one):
        """Writes the reading of a bit: goes on with the next row if it is 0, otherwise at this spot, by begin_one."""
        self.write(("read", self._bit), ("same", self._bit, self.constant(0), one))

    def begin_one(self, one):
        """The spot for the bit 1 is here; nothing is left in the cell of the bit, so that there are fewer stops."""
        self.here(one)
        self.write(("zero", self._bit))

    def finished(self):
        """The reader."""
        self.here(self.wrong)
        self.write(("refuse",))
        ahead = [("top", cell) for cell in self._tops.values()]
        placed = [self._placed(row, len(ahead)) for row in self._rows]
        return Reader(self._cells, [*ahead, *placed], inputs=self._inputs)

    def _placed(self, row, ahead):
        """The row with the number of a row in the place of its spot, where so many rows stand ahead of all others."""
        if "row" not in ROW_SHAPES[row[0]]:
            return row
        return (*row[:-1], self._spots[row[-1]] + ahead)
