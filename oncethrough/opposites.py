"""Opposites: readers and papers that show that a reader accepts no paper."""

from oncethrough.denials import Denials
from oncethrough.errors import TooLong, TooMany
from oncethrough.machines import Machine
from oncethrough.opposing import Opposer

MOST_CELLS = 6
MOST_ROWS = 12
MOST_MARKS = 5000


def opposite(reader):
    """The reader that accepts exactly the counter-papers of the reader."""
    if len(reader.cells) > MOST_CELLS:
        raise TooMany(MOST_CELLS)
    if len(reader) > MOST_ROWS or any([cell > MOST_ROWS for cell in reader.cells]):
        raise TooMany(MOST_ROWS)
    return Opposer(reader).opposite()


def denial_length(reader, store, inputs):
    """The least number of marks of a counter-paper."""
    return denials_of(reader, store, inputs).length()


def denial(reader, store, inputs):
    """The least list among the shortest counter-papers."""
    denials = denials_of(reader, store, inputs)
    if denials.length() > MOST_MARKS:
        raise TooLong(MOST_MARKS)
    return denials.least_list()


def denials_of(reader, store, inputs):
    """The denials of a reader; raises Unfit, InvalidInputs, TooMany, HasPaper."""
    machine = Machine(reader, store)
    return Denials(machine, machine.cells_for(inputs))
