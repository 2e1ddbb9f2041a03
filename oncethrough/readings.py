"""Readings: readers that go through papers on a store, mark by mark."""

from oncethrough.errors import InvalidStop, Refused
from oncethrough.machines import Machine
from oncethrough.readers import Reader
from oncethrough.words import is_number

WAITS = "waits"
DONE = "done"
REFUSED = "refused"


def verdict(reader, store, inputs, marks):
    """True if the reader accepts the paper."""
    reading = Reading(reader, store, inputs)
    if not isinstance(marks, (list, tuple)):
        return False
    return reading.put(*marks) == DONE


def idle_reader():
    """A reader without inputs, whose readings run nowhere, so that they soon take over the state of another one."""
    return Reader([], [("refuse",)])


class Reading:
    """A reader on a store, behind the marks that were put so far."""

    def __init__(self, reader, store, inputs):
        self._machine = Machine(reader, store)
        self._looks = self._no_looks()
        cells = self._machine.cells_for(inputs)
        self._come_to(self._machine.run(0, cells, self._looks))

    def put(self, *marks):
        """Puts the marks in order; returns the state behind them."""
        for mark in marks:
            if self.state != REFUSED:
                self._put_one(mark)
        return self.state

    def stop(self):
        """The row and the cells, from which a reading can be taken up."""
        if self.state == REFUSED:
            raise Refused()
        return self.row, self.cells

    def twin(self):
        """Another reading in the same state."""
        other = Reading(idle_reader(), self._machine.store, ())
        other._take_over(self)
        return other

    @staticmethod
    def taken(reader, store, row, cells):
        """A reading in this stop."""
        machine = Machine(reader, store)
        if not machine.is_stop(row, cells):
            raise InvalidStop((row, cells))
        reading = Reading(idle_reader(), store, ())
        reading._machine = machine
        reading._come_to(("", row, tuple(cells)))
        return reading

    def __bool__(self):
        return bool(self.state == DONE)

    def _no_looks(self):
        """What keeps the looks; this reading keeps none."""
        return None

    def _put_one(self, mark):
        if is_number(mark, 0, self._machine.many_marks(self.row) - 1):
            self._come_to(self._machine.take(self.row, self.cells, mark, self._looks))
        else:
            self._come_to(("mark", self.row, self.cells))

    def _come_to(self, found):
        """Takes on why it refuses, or an empty string, the row and the cells."""
        self.why, self.row, self.cells = found
        if self.why != "":
            self.state = REFUSED
        elif self._machine.word_at(self.row) == "end":
            self.state = DONE
        else:
            self.state = WAITS

    def _take_over(self, other):
        """Takes on the state and the looks of another reading."""
        self._machine = other._machine
        self._looks = None if other._looks is None else {look: True for look in other._looks}
        self._come_to((other.why, other.row, other.cells))


class Recorded(Reading):
    """A reading that keeps its looks."""

    def __init__(self, reader, store, inputs):
        Reading.__init__(self, reader, store, inputs)

    def seen(self):
        """The looks so far, ascending."""
        return sorted(self._looks)

    def twin(self):
        """Another recorded reading in the same state and with the same looks."""
        other = Recorded(idle_reader(), self._machine.store, ())
        other._take_over(self)
        return other

    def _no_looks(self):
        return {}
