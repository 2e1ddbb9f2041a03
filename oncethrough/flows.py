"""Flows: which rows of a reader follow one another, and which cells they use, set and need.

Several cells together are a number that has the bits at the numbers of these cells.
"""

from oncethrough.rows import LAST_WORDS, ROW_SHAPES

SETTING = ("read", "zero", "top", "up", "copy")


def cells_of(row):
    """The cells that a row names."""
    return [item for item, kind in zip(row[1:], ROW_SHAPES[row[0]]) if kind == "cell"]


def bits_of(cells):
    """These cells together."""
    bits = 0
    for cell in cells:
        bits = bits | 1 << cell
    return bits


def cells_in(bits):
    """The single cells, ascending."""
    return [cell for cell in range(bits.bit_length()) if bits >> cell & 1 == 1]


def used_bits(row):
    """The cells that a row looks at."""
    if row[0] == "up":
        return bits_of(row[1:])
    if row[0] == "copy":
        return bits_of(row[2:])
    return 0 if row[0] in SETTING else bits_of(cells_of(row))


def set_bits(row):
    """The cell that a row sets, if it sets one."""
    return bits_of(row[1:2]) if row[0] in SETTING else 0


def followers(rows, at):
    """The rows that follow a row."""
    row = rows[at]
    behind = [] if row[0] in LAST_WORDS else [at + 1]
    return [*behind, row[-1]] if "row" in ROW_SHAPES[row[0]] else behind


def needed_bits(rows):
    """For each row the cells that are needed at it."""
    ahead = [[] for _ in rows]
    for at in range(len(rows)):
        for after in followers(rows, at):
            ahead[after].append(at)
    kept = [~set_bits(row) for row in rows]
    needs = [used_bits(row) for row in rows]
    # The rows whose needs the rows ahead of them may not know yet.
    waiting = list(range(len(rows)))
    while waiting != []:
        at = waiting.pop()
        for before in ahead[at]:
            more = needs[before] | needs[at] & kept[before]
            if more != needs[before]:
                needs[before] = more
                waiting.append(before)
    return needs


def clash_bits(rows, many):
    """For each of so many cells the cells that clash with it."""
    needs = needed_bits(rows)
    found = [needs[0] if needs[0] >> cell & 1 == 1 else 0 for cell in range(many)]
    for at, row in enumerate(rows):
        if row[0] in SETTING:
            for after in followers(rows, at):
                found[row[1]] = found[row[1]] | needs[after]
    for cell in range(many):
        others = cells_in(found[cell])
        for other in others:
            found[other] = found[other] | 1 << cell
    return found


def reached_rows(rows):
    """The rows that can be reached from row 0, with their new numbers in them."""
    reached = {0: True}
    waiting = [0]
    while waiting != []:
        at = waiting.pop()
        for after in followers(rows, at):
            if after not in reached:
                reached[after] = True
                waiting.append(after)
    kept = sorted(reached)
    numbers = {at: number for number, at in enumerate(kept)}
    return [with_row(rows[at], numbers) for at in kept]


def with_row(row, numbers):
    """The row with the new number of the row to go on with, if it names one."""
    return (*row[:-1], numbers[row[-1]]) if "row" in ROW_SHAPES[row[0]] else row


def with_cells(row, numbers):
    """The row with the new numbers of its cells."""
    return (row[0], *[numbers[item] if kind == "cell" else item for item, kind in zip(row[1:], ROW_SHAPES[row[0]])])


def ends_of_jumps(rows):
    """For each row the one that comes behind all jumps from there on; itself where they come round without end."""
    ends = {}
    for start in range(len(rows)):
        path = {}
        at = start
        while at not in ends and at not in path and rows[at][0] == "jump":
            path[at] = True
            at = rows[at][1]
        end = ends.get(at, at)
        # A jump at the end of jumps is one that comes round.
        for each in path:
            ends[each] = each if rows[end][0] == "jump" else end
        if start not in ends:
            ends[start] = start
    return ends
