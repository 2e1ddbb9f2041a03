"""[10], [11], [13] and [14] written out a second time, without the package's own way of running readers.

Nothing here is clever: a run keeps everything that was there before.
"""

from itertools import product


def top(reader, store, cell):
    """The greatest number that a cell can hold."""
    return reader.cells[cell] - 1 if reader.cells[cell] else store.size


def marks_at(reader, store, row):
    """The marks that a read takes."""
    cell = reader.rows[row][1]
    return range(reader.cells[cell]) if reader.cells[cell] else range(store.size)


def look(reader, store, row, cells):
    """The look of a has or link row, or None where it refuses."""
    things = tuple(cells[cell] for cell in reader.rows[row][2:-1])
    if any(thing not in range(store.size) for thing in things):
        return None
    return reader.rows[row][1], things, things in store.rows_of(reader.rows[row][1])


def step(reader, store, row, cells):
    """The next row and cells, or the word of a row that refuses; no read, no end."""
    word, *items = reader.rows[row]
    cells = list(cells)
    if word in ("zero", "top", "up", "copy"):
        number = {"zero": lambda: 0, "top": lambda: top(reader, store, items[0]),
                  "up": lambda: cells[items[0]] + 1, "copy": lambda: cells[items[1]]}[word]()
        if number > top(reader, store, items[0]):
            return "range"
        cells[items[0]] = number
        return row + 1, tuple(cells)
    if word == "refuse":
        return "refuse"
    if word == "jump":
        return items[0], tuple(cells)
    if word == "same":
        holds = cells[items[0]] == cells[items[1]]
    elif word == "less":
        holds = cells[items[0]] < cells[items[1]]
    else:
        seen = look(reader, store, row, cells)
        if seen is None:
            return "thing"
        holds = seen[2]
    return (row + 1 if holds else items[-1]), tuple(cells)


def run(reader, store, row, cells, looks=None):
    """(state, why, row, cells) of the next stop, or where it refuses."""
    before = set()
    while True:
        word = reader.rows[row][0]
        if word in ("read", "end"):
            return ("waits" if word == "read" else "done"), "", row, cells
        if (row, cells) in before:
            return "refused", "round", row, cells
        before.add((row, cells))
        behind = step(reader, store, row, cells)
        if isinstance(behind, str):
            return "refused", behind, row, cells
        if word in ("has", "link") and looks is not None:
            looks.add(look(reader, store, row, cells))
        row, cells = behind


def begin(reader, store, inputs, looks=None):
    """The state of a new reading."""
    cells = tuple(inputs) + (0,) * (len(reader.cells) - reader.inputs)
    return run(reader, store, 0, cells, looks)


def put(reader, store, state, mark, looks=None):
    """The state behind one mark more."""
    word, _, row, cells = state
    if word == "refused":
        return state
    if word == "done" or type(mark) is not int or mark not in marks_at(reader, store, row):
        return "refused", "mark", row, cells
    held = list(cells)
    held[reader.rows[row][1]] = mark
    return run(reader, store, row + 1, tuple(held), looks)


def states(reader, store, inputs, marks):
    """The states ahead of all marks and behind each one."""
    found = [begin(reader, store, inputs)]
    for mark in marks:
        found.append(put(reader, store, found[-1], mark))
    return found


def accepts(reader, store, inputs, marks):
    return states(reader, store, inputs, marks)[-1][0] == "done"


def accepted(reader, store, inputs, most):
    """For each length up to most the accepted papers, as ascending tuples."""
    heads = [((), begin(reader, store, inputs))]
    found = []
    for _ in range(most + 1):
        found.append([marks for marks, state in heads if state[0] == "done"])
        longer = []
        for marks, state in heads:
            if state[0] == "waits":
                for mark in marks_at(reader, store, state[2]):
                    longer.append((marks + (mark,), put(reader, store, state, mark)))
        heads = [head for head in longer if head[1][0] != "refused"]
    return found


def stops(reader, store, inputs):
    """All stops that can be reached."""
    found = {}
    pending = [begin(reader, store, inputs)]
    while pending:
        state = pending.pop()
        if state[0] != "refused" and state[2:] not in found:
            found[state[2:]] = state
            if state[0] == "waits":
                pending += [put(reader, store, state, mark) for mark in marks_at(reader, store, state[2])]
    return sorted(found)


def every_stop(reader, store):
    """All tuples that are stops, whether they can be reached or not."""
    rows = [at for at, row in enumerate(reader.rows) if row[0] in ("read", "end")]
    numbers = [range(top(reader, store, cell) + 1) for cell in range(len(reader.cells))]
    return list(product(rows, product(*numbers)))


def is_closed(reader, store, inputs, listed):
    """True if a list of stops is closed."""
    first = begin(reader, store, inputs)
    if first[0] != "refused" and first[2:] not in listed:
        return False
    for row, cells in listed:
        if reader.rows[row][0] == "end":
            return False
        for mark in marks_at(reader, store, row):
            state = put(reader, store, ("waits", "", row, cells), mark)
            if state[0] != "refused" and state[2:] not in listed:
                return False
    return True


def following(reader, row):
    word = reader.rows[row][0]
    found = [] if word in ("jump", "refuse", "end") else [row + 1]
    return found + ([reader.rows[row][-1]] if word in ("same", "less", "has", "link", "jump") else [])


def uses(row):
    return {"up": row[1:], "copy": row[2:], "same": row[1:3], "less": row[1:3], "has": row[2:3],
            "link": row[2:4]}.get(row[0], ())


def sets(row):
    return row[1:2] if row[0] in ("read", "zero", "top", "up", "copy") else ()


def is_needed(reader, cell, row):
    """True if some list of rows from this one on comes to a use of the cell with no row ahead of it that sets it."""
    pending, before = [row], set()
    while pending:
        at = pending.pop()
        if at in before:
            continue
        before.add(at)
        if cell in uses(reader.rows[at]):
            return True
        if cell not in sets(reader.rows[at]):
            pending += following(reader, at)
    return False


def needed(reader):
    return [[cell for cell in range(len(reader.cells)) if is_needed(reader, cell, row)] for row in range(len(reader.rows))]


def reached(reader):
    """The rows that can be reached by following."""
    found, pending = set(), [0]
    while pending:
        at = pending.pop()
        if at not in found:
            found.add(at)
            pending += following(reader, at)
    return found


def clash(reader, needs, one, other):
    """True if the two cells clash."""
    if one in needs[0] and other in needs[0]:
        return True
    for at, row in enumerate(reader.rows):
        for setter, second in ((one, other), (other, one)):
            if setter in sets(row) and any(second in needs[after] for after in following(reader, at)):
                return True
    return False


def goes_round(reader, row):
    """True if following jumps from this row comes round without end."""
    before = set()
    while reader.rows[row][0] == "jump":
        if row in before:
            return True
        before.add(row)
        row = reader.rows[row][1]
    return False


def is_lean(reader):
    """What [13] says of one lean reader alone; a text that tells what is wrong, or an empty one."""
    if reached(reader) != set(range(len(reader.rows))):
        return "a row is not reached"
    for row in reader.rows:
        if row[0] in ("same", "less", "has", "link", "jump") and reader.rows[row[-1]][0] == "jump":
            if not goes_round(reader, row[-1]):
                return "a goal is a jump"
    named = {item for row in reader.rows for item in (*uses(row), *sets(row))}
    if any(cell not in named for cell in range(reader.inputs, len(reader.cells))):
        return "a cell occurs nowhere"
    needs = needed(reader)
    for one in range(reader.inputs, len(reader.cells)):
        for other in range(one + 1, len(reader.cells)):
            if reader.cells[one] == reader.cells[other] and not clash(reader, needs, one, other):
                return "two cells do not clash"
    return ""
