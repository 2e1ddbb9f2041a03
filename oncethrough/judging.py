"""Judging: whether readers are right for questions, over all stores of a size."""

from oncethrough.errors import InvalidNumber, TooMany, Unfit, Unlike
from oncethrough.graphs import Graph
from oncethrough.machines import Machine
from oncethrough.meaning import Ground
from oncethrough.readers import Reader
from oncethrough.stores import MOST_TABLES, Store
from oncethrough.words import is_number

MOST_ROWS = 9

# The rows that look at something, and go on with one of two rows.
ASKING = ("same", "less", "has", "link")


class Verdict:
    """What is found of a reader."""

    def __init__(self, word):
        self.word = word


class Right(Verdict):
    """The reader is right for so many pairs of a store and inputs."""

    def __init__(self, pairs):
        Verdict.__init__(self, "right")
        self.pairs = pairs


class Cheated(Verdict):
    """The reader accepts this paper, though the saying does not hold."""

    def __init__(self, store, inputs, marks):
        Verdict.__init__(self, "cheated")
        self.store = store
        self.inputs = tuple(inputs)
        self.marks = list(marks)


class Silent(Verdict):
    """The reader accepts no paper, though the saying holds."""

    def __init__(self, store, inputs):
        Verdict.__init__(self, "silent")
        self.store = store
        self.inputs = tuple(inputs)


def judge(reader, question, size):
    """The verdict of a reader, for a question and all stores of this size."""
    if not is_number(size, 1, Store.MOST):
        raise InvalidNumber(size)
    if reader.inputs != len(question.names):
        raise Unlike()
    check_tables(reader, question)
    tables = question.tables()
    rows = [(name, row) for name in tables for row in tuples_of(size, tables[name])]
    if len(rows) > MOST_ROWS:
        raise TooMany(MOST_ROWS)
    if len(tables) > MOST_TABLES:
        raise TooMany(MOST_TABLES)
    inputs = tuples_of(size, reader.inputs)
    for number in range(1 << len(rows)):
        store = store_of(size, tables, [row for at, row in enumerate(rows) if number >> at & 1 == 1])
        wrong = wrong_at(reader, question, store, inputs)
        if wrong is not None:
            return wrong
    return Right((1 << len(rows)) * len(inputs))


def loosened(reader, at):
    """The reader in which a row that asks something goes on as if the answer were yes, whatever it is."""
    if not is_number(at, 0, len(reader) - 1) or reader.rows[at][0] not in ASKING:
        raise InvalidNumber(at)
    row = reader.rows[at]
    cell = row[2] if row[0] in ("has", "link") else row[1]
    rows = [*reader.rows[:at], ("same", cell, cell, row[-1]), *reader.rows[at + 1:]]
    return Reader(reader.cells, rows, inputs=reader.inputs)


def check_tables(reader, question):
    """Raises Unfit for the first table of the reader that the question does not have with as many places."""
    places = question.tables()
    uses = reader.tables()
    for name in sorted(uses):
        if places.get(name, 0) != uses[name]:
            raise Unfit(name)


def tuples_of(size, many):
    """All tuples of so many things, ascending."""
    found = [()]
    for _ in range(many):
        found = [(*things, thing) for things in found for thing in range(size)]
    return found


def store_of(size, tables, rows):
    """The store with these tables that has these rows, pairs of the table and the things."""
    return Store(size, {name: (tables[name], [row for table, row in rows if table == name]) for name in tables})


def wrong_at(reader, question, store, inputs):
    """The verdict at the first of these inputs at which the reader is wrong on the store, or None."""
    machine = Machine(reader, store)
    ground = Ground(store, question)
    for things in inputs:
        graph = Graph(machine, machine.cells_for(things))
        accepts = graph.ends() != []
        if accepts and not ground.is_so(ground.aim(things, True)):
            return Cheated(store, things, graph.first_paper())
        if not accepts and ground.is_so(ground.aim(things, True)):
            return Silent(store, things)
    return None
