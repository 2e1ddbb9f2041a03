"""Denials: the first shortest counter-papers of readers with few standings."""

from oncethrough.errors import HasPaper, TooMany

MOST_STANDINGS = 40


class Denials:
    """The standings of a machine, with these cells at row 0, and the steps between them."""

    def __init__(self, machine, cells):
        self._machine = machine
        self._standings = standings_of(machine)
        self._first = (0, *cells)
        # For each standing pairs of the marks that a step reads and the standing to which it leads.
        self._steps = {standing: self._steps_from(standing) for standing in self._standings}
        self._waves = self._find_waves()
        if any([machine.word_at(standing[0]) == "end" for standing in self._waves[-1]]):
            raise HasPaper()
        self._traces = self._find_traces()

    def length(self):
        """The number of marks of the denial, which may be too many to be written."""
        many = 0
        for segment in self._segments():
            many += len(segment)
        return many

    def least_list(self):
        """The least list among the shortest counter-papers."""
        return [mark for segment in self._segments() for mark in segment]

    def _segments(self):
        """The bits and traces of the denial."""
        last = len(self._waves) - 2
        for steps in range(last + 1):
            for goal in self._standings:
                if goal in self._waves[steps + 1]:
                    yield [1]
                    yield self._traces[steps + 1][goal]
                else:
                    yield [0]
                    yield from [self._traces[steps][end] for end in self._waves[steps]]
        yield from [self._traces[last][end] for end in self._waves[last]]

    def _steps_from(self, standing):
        row, cells = standing[0], standing[1:]
        if self._machine.word_at(row) == "read":
            cell = self._machine.reader.rows[row][1]
            marks = range(self._machine.many_marks(row))
            return [((mark,), (row + 1, *cells[:cell], mark, *cells[cell + 1:])) for mark in marks]
        held = list(cells)
        after = self._machine.step(row, held)
        return [] if after < 0 else [((), (after, *held))]

    def _find_waves(self):
        """The standings that at most 0, 1, 2 .. steps reach, ascending, until there is none more."""
        waves = [[self._first]]
        while len(waves) == 1 or len(waves[-1]) > len(waves[-2]):
            reached = {standing: True for standing in waves[-1]}
            for standing in waves[-1]:
                for _, after in self._steps[standing]:
                    reached[after] = True
            waves.append(sorted(reached))
        return waves

    def _find_traces(self):
        """For at most 0, 1, 2 .. steps a dict from standings to the first shortest traces that end there."""
        heads = [{self._first: []}]
        while len(heads) < len(self._waves):
            heads.append(self._longer_heads(heads[-1]))
        return [{standing: [*ahead[standing], 0] for standing in ahead} for ahead in heads]

    def _longer_heads(self, heads):
        """The first shortest traces, without their last bit, that have at most one step more."""
        found = {standing: heads[standing] for standing in heads}
        for standing in heads:
            for marks, after in self._steps[standing]:
                head = [*heads[standing], 1, *marks]
                if after not in found or (len(head), head) < (len(found[after]), found[after]):
                    found[after] = head
        return found


def standings_of(machine):
    """All standings of a machine, ascending; raises TooMany."""
    many = len(machine.reader.rows)
    for top in machine.tops:
        many *= top + 1
    if many > MOST_STANDINGS:
        raise TooMany(MOST_STANDINGS)
    standings = [(row,) for row in range(len(machine.reader.rows))]
    for top in machine.tops:
        standings = [(*standing, number) for standing in standings for number in range(top + 1)]
    return standings
