"""Exploring: which papers a reader accepts on a store, and what shows that it accepts none."""

from oncethrough.errors import HasPaper, InvalidNumber, NoPaper
from oncethrough.graphs import Graph, explored
from oncethrough.machines import Machine
from oncethrough.pairs import first_difference
from oncethrough.readings import verdict
from oncethrough.tails import Tails
from oncethrough.words import is_number

MOST_COUNTED = 40


def shortest(reader, store, inputs):
    """The first shortest accepted paper, or None."""
    return explored(reader, store, inputs).first_paper()


def closed_list(reader, store, inputs):
    """All stops that can be reached, ascending: where no paper is accepted, they are a closed list."""
    graph = explored(reader, store, inputs)
    if graph.ends() != []:
        raise HasPaper()
    return sorted(graph.stops)


def is_closed(reader, store, inputs, stops):
    """True if the items, any values, are a closed list."""
    machine = Machine(reader, store)
    graph = Graph(machine, machine.cells_for(inputs))
    if not isinstance(stops, (list, tuple)) or not all([is_waiting(machine, stop) for stop in stops]):
        return False
    listed = {stop: True for stop in stops}
    if graph.stops != [] and graph.stops[0] not in listed:
        return False
    kinds = {machine.kind_of(row, cells): (row, cells) for row, cells in listed}
    return all([stays_within(machine, kinds[kind], listed) for kind in kinds])


def is_waiting(machine, value):
    """True if any value is a stop at a read."""
    if not isinstance(value, tuple) or len(value) != 2 or not isinstance(value[1], tuple):
        return False
    return machine.is_stop(value[0], value[1]) and machine.word_at(value[0]) == "read"


def stays_within(machine, stop, listed):
    """True if each mark that the stop takes leads to a refusal or to one of the listed stops."""
    row, cells = stop
    for mark in range(machine.many_marks(row)):
        why, after, held = machine.take(row, cells, mark, None)
        if why == "" and (after, held) not in listed:
            return False
    return True


def counted_papers(reader, store, inputs, *, most=20):
    """How many accepted papers there are with 0, 1, 2 .. and at last with most marks."""
    graph = explored(reader, store, inputs)
    check_counted(most)
    tails = Tails(graph, most)
    return [tails.many(length) for length in range(most + 1)]


def papers_of(reader, store, inputs, length):
    """The accepted papers with so many marks, ascending."""
    graph = explored(reader, store, inputs)
    check_counted(length)
    tails = Tails(graph, length)
    if tails.many(length) > 0:
        yield from tails.lists_from(0, length)


def numbered(reader, store, inputs, length, at):
    """The paper with this number among the accepted papers with so many marks."""
    graph = explored(reader, store, inputs)
    check_counted(length)
    tails = Tails(graph, length)
    if not is_number(at, 0, tails.many(length) - 1):
        raise InvalidNumber(at)
    return tails.paper_at(length, at)


def place_of(reader, store, inputs, marks):
    """The number of an accepted paper among those with equally many marks."""
    graph = explored(reader, store, inputs)
    if not verdict(reader, store, inputs, marks):
        raise NoPaper()
    return Tails(graph, len(marks)).place_of(marks)


def parted(one, other, store, inputs):
    """The first shortest paper that exactly one of the two readers accepts, or None."""
    machines = [Machine(one, store)]
    cells = [machines[0].cells_for(inputs)]
    machines.append(Machine(other, store))
    cells.append(machines[1].cells_for(inputs))
    graphs = [Graph(machine, held) for machine, held in zip(machines, cells)]
    return first_difference(graphs[0], graphs[1])


def check_counted(value):
    """Raises InvalidNumber unless any value is a number of marks for which papers are counted."""
    if not is_number(value, 0, MOST_COUNTED):
        raise InvalidNumber(value)
