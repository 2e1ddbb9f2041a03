"""Numerals: rows that count with several cells, as with the digits of a number.

A numeral is a tuple of cells, of which the first one counts most. All numerals of one builder have the same ranges.
"""

from oncethrough.builders import Builder


class NumeralBuilder(Builder):
    """A builder with numerals of these ranges, each of which holds as many numbers as all of them multiplied."""

    def __init__(self, inputs, ranges):
        Builder.__init__(self, inputs)
        self._ranges = ranges

    def numeral(self):
        """A new numeral."""
        return tuple([self.cell(reach) for reach in self._ranges])

    def put_zero(self, numeral):
        """Writes what puts the least number into a numeral."""
        for cell in numeral:
            self.write(("zero", cell))

    def put_top(self, numeral):
        """Writes what puts the greatest number into a numeral."""
        for cell in numeral:
            self.write(("top", cell))

    def put_copy(self, numeral, other):
        """Writes what puts the number of another numeral into a numeral."""
        for cell, digit in zip(numeral, other):
            self.write(("copy", cell, digit))

    def count_on(self, numeral, around):
        """Writes what puts the next number into a numeral; behind the greatest one, 0 and goes on at this spot."""
        behind = self.spot()
        rising = [self.spot() for _ in numeral]
        for at in range(len(numeral) - 1, -1, -1):
            self.write(("same", numeral[at], self.top(self._ranges[at]), rising[at]), ("zero", numeral[at]))
        self.write(("jump", around))
        for cell, spot in zip(numeral, rising):
            self.here(spot)
            self.write(("up", cell), ("jump", behind))
        self.here(behind)

    def go_on_if_same(self, one, other, spot):
        """Writes what goes on with the next row if two numerals are the same, otherwise at the spot."""
        for cell, digit in zip(one, other):
            self.write(("same", cell, digit, spot))

    def check_less(self, one, other):
        """Writes what refuses unless the first numeral is less than the other one."""
        behind = self.spot()
        for cell, digit in zip(one, other):
            alike = self.spot()
            self.write(("less", cell, digit, alike), ("jump", behind))
            self.here(alike)
            self.write(("same", cell, digit, self.wrong))
        self.write(("jump", self.wrong))
        self.here(behind)
