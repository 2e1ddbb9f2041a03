"""Opposing: the rows of the reader that accepts exactly the counter-papers of another one."""

from oncethrough.flows import cells_of
from oncethrough.forms import LOOKS
from oncethrough.numerals import NumeralBuilder
from oncethrough.readers import WIDE

# The words of the rows that put a number into their first cell.
PUTTING = ("zero", "top", "up", "copy")


class Opposer:
    """Writes the opposite of a reader.

    Standings are held in numerals, the row first; so are numbers of standings, steps and entries, as none of them is
    greater than the number of all standings. Outside of where they are needed all cells hold 0: the fewer numbers are
    left behind, the fewer stops there are to explore.
    """

    def __init__(self, reader):
        self._reader = reader
        self._build = NumeralBuilder(reader.inputs, (len(reader.rows), *reader.cells))
        self._zero = self._build.constant(0)
        # The standing to which a trace has come, and the standing at which the round is.
        self._place = self._build.numeral()
        self._goal = self._build.numeral()
        # One less than the count, and than the number of standings with the bit 1 so far; none is one less than 0.
        self._count = self._build.numeral()
        self._number = self._build.numeral()
        # How many steps the entries may take, and how many the trace took.
        self._steps = self._build.numeral()
        self._taken = self._build.numeral()
        # How many entries there were ahead of this one, and the standing at which the last one ended.
        self._done = self._build.numeral()
        self._ahead = self._build.numeral()
        # 1 if the trace of a bit 1 may take one step more, in a list of entries, in the last list, ahead of the first
        # entry of a list, and where it is looked for a step from the end of an entry.
        self._spare, self._listing, self._last, self._fresh, self._looking = [self._build.cell(2) for _ in range(5)]

    def opposite(self):
        """The reader."""
        build = self._build
        around, again, shown, wrapped, trace, passed, over = [build.spot() for _ in range(7)]
        build.here(around)
        build.put_top(self._number)
        build.here(again)
        build.ask(shown)
        build.write(("up", self._listing), ("up", self._fresh), ("jump", trace))
        build.begin_one(shown)
        build.count_on(self._number, wrapped)
        build.here(wrapped)
        build.write(("up", self._spare))
        build.here(trace)
        self._take_trace(trace, passed, over)
        build.here(passed)
        self._end_round(around, again, trace)
        build.here(over)
        build.write(("end",))
        return build.finished()

    def _end_round(self, around, again, trace):
        """The next standing of the round; or behind the last one another round, or the last list."""
        build = self._build
        ended, grown = build.spot(), build.spot()
        build.count_on(self._goal, ended)
        build.write(("jump", again))
        build.here(ended)
        build.go_on_if_same(self._number, self._count, grown)
        build.put_zero(self._number)
        build.write(("up", self._listing), ("up", self._fresh), ("up", self._last), ("jump", trace))
        build.here(grown)
        build.put_copy(self._count, self._number)
        build.count_on(self._steps, build.wrong)
        build.write(("jump", around))

    def _take_trace(self, trace, passed, over):
        """A trace, and what is asked of its end; then another trace, what is behind the standing, or behind all."""
        build = self._build
        again, more, listed, moving, checked, stuck = [build.spot() for _ in range(6)]
        self._put_beginning()
        build.here(again)
        build.ask(more)
        build.put_zero(self._taken)
        build.write(("same", self._listing, self._zero, listed), ("zero", self._spare))
        build.go_on_if_same(self._place, self._goal, build.wrong)
        build.put_zero(self._place)
        build.write(("jump", passed))
        build.here(listed)
        self._end_entry(moving, checked)
        self._end_list(trace, passed, over)
        build.begin_one(more)
        self._count_step(moving)
        build.here(moving)
        self._move(stuck)
        # The step that was looked for must not lead to the standing of the round.
        looked = build.spot()
        build.write(("same", self._looking, self._zero, looked), ("jump", again))
        build.here(looked)
        build.go_on_if_same(self._place, self._goal, checked)
        build.write(("refuse",))
        build.here(stuck)
        build.check(("same", self._looking, self._zero), False)
        build.write(("jump", checked))

    def _put_beginning(self):
        """The standing at the beginning."""
        self._build.put_zero(self._place)
        for cell in range(self._reader.inputs):
            self._build.write(("copy", self._place[cell + 1], cell))

    def _count_step(self, moving):
        """One step more of the trace, if it may take one."""
        build = self._build
        fewer = build.spot()
        build.go_on_if_same(self._taken, self._steps, fewer)
        build.check(("same", self._spare, self._zero), False)
        build.write(("zero", self._spare), ("jump", moving))
        build.here(fewer)
        build.count_on(self._taken, build.wrong)

    def _end_entry(self, moving, checked):
        """Behind the trace of an entry, or of the last list."""
        build = self._build
        first, final, other, listed = [build.spot() for _ in range(4)]
        build.write(("same", self._fresh, self._zero, first))
        build.check_less(self._ahead, self._place)
        build.here(first)
        build.write(("zero", self._fresh))
        build.put_copy(self._ahead, self._place)
        build.write(("same", self._last, self._zero, final))
        build.go_on_if_same(self._place, self._goal, other)
        build.write(("refuse",))
        build.here(other)
        build.write(("up", self._looking), ("jump", moving))
        build.here(checked)
        build.write(("zero", self._looking), ("jump", listed))
        build.here(final)
        for at, row in enumerate(self._reader.rows):
            if row[0] == "end":
                build.check(("same", self._place[0], build.constant(at)), False)
        build.here(listed)

    def _end_list(self, trace, passed, over):
        """Another trace of the list, if there must be one; otherwise the list is over."""
        build = self._build
        more = build.spot()
        build.put_zero(self._place)
        build.go_on_if_same(self._done, self._count, more)
        build.put_zero(self._done)
        build.put_zero(self._ahead)
        build.write(("zero", self._listing), ("same", self._last, self._zero, over), ("jump", passed))
        build.here(more)
        build.count_on(self._done, build.wrong)
        build.write(("jump", trace))

    def _move(self, stuck):
        """A step of the place, with a mark or, where it is looked for, towards the goal; otherwise at stuck."""
        build = self._build
        moved = build.spot()
        for at, row in enumerate(self._reader.rows):
            other = build.spot()
            build.write(("same", self._place[0], build.constant(at), other))
            self._move_row(row, stuck, moved)
            build.here(other)
        build.here(moved)

    def _move_row(self, row, stuck, moved):
        """A step at this row, in the cells of the place."""
        build = self._build
        word = row[0]
        row_cell = self._place[0]
        if word in ("refuse", "end"):
            build.write(("jump", stuck))
        elif word == "jump":
            build.write(("copy", row_cell, build.constant(row[1])), ("jump", moved))
        elif word == "read":
            self._move_read(row[1], stuck)
            build.write(("up", row_cell), ("jump", moved))
        elif word in PUTTING:
            self._check_put(row, stuck)
            build.write((word, *[self._place[cell + 1] for cell in row[1:]]), ("up", row_cell), ("jump", moved))
        else:
            self._check_look(row, stuck)
            otherwise = build.spot()
            asked = [self._place[cell + 1] for cell in cells_of(row)]
            words = [item for item in row if isinstance(item, str)]
            build.write((*words, *asked, otherwise), ("up", row_cell), ("jump", moved))
            build.here(otherwise)
            build.write(("copy", row_cell, build.constant(row[-1])), ("jump", moved))

    def _move_read(self, cell, stuck):
        """Reads a mark into this cell of the reader, or takes the one that leads to the goal, if there is one."""
        build = self._build
        looked, behind = build.spot(), build.spot()
        held, wanted = self._place[cell + 1], self._goal[cell + 1]
        build.write(("same", self._looking, self._zero, looked), ("read", held), ("jump", behind))
        build.here(looked)
        if self._reader.cells[cell] == WIDE:
            build.write(("less", wanted, build.size_cell(), stuck))
        build.write(("copy", held, wanted))
        build.here(behind)

    def _check_put(self, row, stuck):
        """Goes on at stuck if the cell cannot hold what up or copy puts into it."""
        build = self._build
        if row[0] not in ("up", "copy"):
            return
        fits = build.spot()
        held, top = self._place[row[-1] + 1], build.top(self._reader.cells[row[1]])
        build.write(("same", held, top, fits) if row[0] == "up" else ("less", top, held, fits), ("jump", stuck))
        build.here(fits)

    def _check_look(self, row, stuck):
        """Goes on at stuck if has or link look at what is no thing."""
        for cell in cells_of(row):
            if row[0] in LOOKS:
                self._build.write(("less", self._place[cell + 1], self._build.size_cell(), stuck))
