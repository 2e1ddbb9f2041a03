"""Graphs: the stops that a reader can reach on a store, and how marks lead from one to another."""

from oncethrough.errors import TooMany
from oncethrough.machines import Machine

MOST_STOPS = 2000


def explored(reader, store, inputs):
    """The graph of a reader; raises Unfit, InvalidInputs, TooMany."""
    machine = Machine(reader, store)
    return Graph(machine, machine.cells_for(inputs))


class Graph:
    """All stops that can be reached from these cells at row 0, in the order of their first shortest lists of marks.

    Stops are named by their numbers in this order; stop 0, if there is one, is that of the new reading. Stops are of
    one kind if they wait at one read, with other numbers only in its own cell: then a mark leads to the same stop from
    all of them.
    """

    def __init__(self, machine, cells):
        self._machine = machine
        self.stops = []
        # For each stop the number of its kind.
        self.kinds = []
        # For each kind a dict from the marks that lead to stops to these stops, ascending.
        self.moves = []
        # For each stop the stop and the mark by which it was found; None for stop 0.
        self._origins = []
        self._numbers = {}
        self._known_kinds = {}
        self._come(machine.run(0, cells, None), None)
        while len(self.kinds) < len(self.stops):
            self.kinds.append(self._kind_of(len(self.kinds)))

    def is_end(self, at):
        """True if the stop is at an end row."""
        return self._machine.word_at(self.stops[at][0]) == "end"

    def ends(self):
        """The stops at end rows, ascending."""
        return [at for at in range(len(self.stops)) if self.is_end(at)]

    def marks_to(self, at):
        """The first shortest list of marks that leads to the stop."""
        marks = []
        while self._origins[at] is not None:
            at, mark = self._origins[at]
            marks.append(mark)
        return marks[::-1]

    def first_paper(self):
        """The first shortest accepted paper, or None."""
        ends = self.ends()
        return None if ends == [] else self.marks_to(ends[0])

    def _kind_of(self, at):
        row, cells = self.stops[at]
        key = self._machine.kind_of(row, cells)
        if key not in self._known_kinds:
            moves = {}
            for mark in range(self._machine.many_marks(row)):
                found = self._come(self._machine.take(row, cells, mark, None), (at, mark))
                if found is not None:
                    moves[mark] = found
            self._known_kinds[key] = len(self.moves)
            self.moves.append(moves)
        return self._known_kinds[key]

    def _come(self, found, origin):
        """The stop that was found, new or not, or None if the machine refused."""
        why, row, cells = found
        if why != "":
            return None
        stop = (row, cells)
        if stop not in self._numbers:
            if len(self.stops) == MOST_STOPS:
                raise TooMany(MOST_STOPS)
            self._numbers[stop] = len(self.stops)
            self.stops.append(stop)
            self._origins.append(origin)
        return self._numbers[stop]
