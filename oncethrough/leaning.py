"""Leaning: readers that do the same with fewer rows and cells."""

from oncethrough.flows import cells_in, cells_of, clash_bits, ends_of_jumps, needed_bits, reached_rows
from oncethrough.flows import with_cells, with_row
from oncethrough.readers import Reader


def needed(reader):
    """For each row the cells that are needed at it, ascending."""
    return [cells_in(bits) for bits in needed_bits(reader.rows)]


def lean(reader):
    """A reader with the same states behind all marks that has no row, jump or cell to spare."""
    ends = ends_of_jumps(reader.rows)
    # The rows that cannot be reached are left out ahead of the cells: no clash may hang on them.
    rows = reached_rows([with_row(row, ends) for row in reader.rows])
    homes = homes_of(reader, rows)
    kept = [cell for cell in homes if homes[cell] == cell]
    numbers = {cell: kept.index(homes[cell]) for cell in homes}
    moved = [with_cells(row, numbers) for row in rows]
    return Reader([reader.cells[cell] for cell in kept], moved, inputs=reader.inputs)


def homes_of(reader, rows):
    """For each input and each cell in these rows, ascending, the cell in which its numbers can be held.

    Cells that do not clash can share one: no number in it is needed any more where another one is put in, and what is
    needed at row 0 is 0. A shared cell clashes with all with which one of its cells clashes.
    """
    clashes = clash_bits(rows, len(reader.cells))
    used = sorted(set([cell for row in rows for cell in cells_of(row)]))
    homes = {cell: cell for cell in range(reader.inputs)}
    shared = []
    for cell in [cell for cell in used if cell >= reader.inputs]:
        free = [home for home in shared if reader.cells[home] == reader.cells[cell] and clashes[home] >> cell & 1 == 0]
        if free == []:
            shared.append(cell)
        homes[cell] = free[0] if free != [] else cell
        clashes[homes[cell]] = clashes[homes[cell]] | clashes[cell]
    return homes
