"""Compiling: readers that accept exactly the papers of questions."""

from oncethrough.builders import Builder
from oncethrough.forms import CHOOSING, LOOKS, WAYS, Form
from oncethrough.readers import WIDE


def compiled(question):
    """The reader that accepts exactly the papers of the question."""
    inputs = len(question.names)
    builder = Builder(inputs)
    Writer(builder).take(Form(question.saying, question.names), tuple(range(inputs)), True)
    builder.write(("end",))
    return builder.finished()


class Writer:
    """Writes the rows that take the papers of forms.

    A scope is a tuple of the cells that hold the things of the names in scope. The cells of a form hold 0 ahead of its
    papers and behind them: the fewer numbers are left behind, the fewer stops there are to explore.
    """

    def __init__(self, builder):
        self.builder = builder
        self._own = {}

    def own(self, form, use, reach=WIDE):
        """The cell of this range that the form has for this use; yes papers and no papers of the form share it."""
        key = (form, use)
        if key not in self._own:
            self._own[key] = self.builder.cell(reach)
        return self._own[key]

    def take(self, form, scope, yes):
        """Writes what takes a yes paper or a no paper of the form, and refuses at anything else."""
        if form.word == "not":
            self.take(form.parts[0], scope, not yes)
        elif form.word in ("and", "or"):
            self._take_parts(form, scope, yes)
        elif form.word in ("some", "all"):
            self._take_things(form, scope, yes)
        elif form.word == "count":
            self._take_count(form, scope, yes)
        elif form.word in WAYS and yes:
            self._take_way(form, scope)
        elif form.word in WAYS:
            Rounds(self, form, scope).take()
        else:
            cells = [scope[spot] for spot in form.spots]
            self.builder.check((form.word, form.table, *cells) if form.word in LOOKS else (form.word, *cells), yes)

    def take_step(self, form, scope, ends):
        """Writes what takes a thing and a yes paper of the step to it; then the first of the two ends is there too."""
        start, end = ends
        self.builder.write(("read", end))
        self.take(form.parts[0], scope + ends, True)
        self.builder.write(("copy", start, end), ("zero", end))

    def _take_parts(self, form, scope, yes):
        """For and, or."""
        build = self.builder
        if CHOOSING[form.word] != yes:
            for part in form.parts:
                self.take(part, scope, yes)
            return
        one, behind = build.spot(), build.spot()
        build.ask(one)
        self.take(form.parts[0], scope, yes)
        build.write(("jump", behind))
        build.begin_one(one)
        self.take(form.parts[1], scope, yes)
        build.here(behind)

    def _take_things(self, form, scope, yes):
        """For some, all."""
        build = self.builder
        thing = self.own(form, "thing")
        if CHOOSING[form.word] == yes:
            build.write(("read", thing))
            self.take(form.parts[0], (*scope, thing), yes)
        else:
            again = build.spot()
            build.here(again)
            self.take(form.parts[0], (*scope, thing), yes)
            build.write(("up", thing), ("same", thing, build.size_cell(), again))
        build.write(("zero", thing))

    def _take_count(self, form, scope, yes):
        build = self.builder
        thing = self.own(form, "thing")
        number = self.own(form, "number", form.test[1] if form.test[0] == "rest" else WIDE)
        again, one, behind = build.spot(), build.spot(), build.spot()
        build.here(again)
        build.ask(one)
        self.take(form.parts[0], (*scope, thing), False)
        build.write(("jump", behind))
        build.begin_one(one)
        self.take(form.parts[0], (*scope, thing), True)
        self._count_on(form.test, number)
        build.here(behind)
        build.write(("up", thing), ("same", thing, build.size_cell(), again), ("zero", thing))
        self._check_test(form.test, number, yes)
        build.write(("zero", number))

    def _count_on(self, test, number):
        """Adds 1 to the number that passes the test, or to its rest."""
        build = self.builder
        if test[0] != "rest":
            build.write(("up", number))
            return
        less, behind = build.spot(), build.spot()
        build.write(("same", number, build.top(test[1]), less), ("zero", number), ("jump", behind))
        build.here(less)
        build.write(("up", number))
        build.here(behind)

    def _check_test(self, test, number, yes):
        bound = self.builder.constant(test[-1])
        if test[0] == "rest":
            self.builder.check(("same", number, bound), yes)
        elif test[0] == "least":
            self.builder.check(("less", number, bound), not yes)
        else:
            self.builder.check(("less", bound, number), not yes)

    def _take_way(self, form, scope):
        """A trace that ends at the second of the two things of the form."""
        build = self.builder
        ends = (self.own(form, "start"), self.own(form, "end"))
        first, last = [scope[spot] for spot in form.spots]
        again, more, behind = build.spot(), build.spot(), build.spot()
        build.write(("copy", ends[0], first))
        build.here(again)
        build.ask(more)
        build.check(("same", ends[0], last), True)
        build.write(("zero", ends[0]))
        if form.most is not None:
            build.write(("zero", self._steps_cell(form)))
        build.write(("jump", behind))
        build.begin_one(more)
        if form.most is not None:
            build.write(("up", self._steps_cell(form)))
        self.take_step(form, scope, ends)
        build.write(("jump", again))
        build.here(behind)

    def _steps_cell(self, form):
        """The cell that cannot hold more steps than may be taken."""
        return self.own(form, "steps", form.most + 1)


class Rounds:
    """Writes what takes a no paper of way or within.

    A trace is taken by the same rows in each of its three places. Behind it they are told apart by two cells: in a
    round the trace of a thing with the bit 1 may take more steps than the entries, and in the last list the thing at
    which the round is has become the size of the store.
    """

    def __init__(self, writer, form, scope):
        self._writer = writer
        self._build = writer.builder
        self._form = form
        self._scope = scope
        self._first, self._last = [scope[spot] for spot in form.spots]
        self._ends = (writer.own(form, "start"), writer.own(form, "end"))
        # The thing at which the round is, and the number of things with the bit 1 so far.
        self._thing = writer.own(form, "thing")
        self._number = writer.own(form, "number")
        self._count = writer.own(form, "count")
        self._steps = writer.own(form, "rounds")
        # How many steps the trace took, and how many it may take.
        self._taken = writer.own(form, "taken")
        self._limit = writer.own(form, "limit")
        # How many entries there were, and the least thing at which the next trace may end.
        self._done = writer.own(form, "done")
        self._floor = writer.own(form, "floor")

    def take(self):
        """Writes all rows."""
        build = self._build
        around, last, trace, entry, passed, over = [build.spot() for _ in range(6)]
        build.write(("up", self._count))
        build.here(around)
        if self._form.most is not None:
            going = build.spot()
            build.write(("same", self._steps, build.constant(self._form.most), going), ("jump", last))
            build.here(going)
        build.write(("zero", self._thing))
        again, shown = build.spot(), build.spot()
        build.here(again)
        build.ask(shown)
        build.write(("jump", entry))
        build.begin_one(shown)
        build.write(("up", self._number), ("copy", self._limit, self._steps), ("up", self._limit), ("jump", trace))
        build.here(entry)
        build.write(("copy", self._limit, self._steps))
        build.here(trace)
        self._take_trace(entry, passed, over)
        build.here(passed)
        build.write(("up", self._thing), ("same", self._thing, build.size_cell(), again))
        self._end_round(around, last)
        build.here(last)
        build.write(("top", self._thing), ("zero", self._number), ("jump", entry))
        build.here(over)
        build.write(("zero", self._thing), ("zero", self._count), ("zero", self._steps))

    def _take_trace(self, entry, passed, over):
        """A trace, and what is asked of its end; then an entry, what is behind the thing, or what is behind all."""
        build = self._build
        start = self._ends[0]
        again, more, shown = build.spot(), build.spot(), build.spot()
        build.write(("copy", start, self._first))
        build.here(again)
        build.ask(more)
        build.write(("zero", self._taken), ("same", self._limit, self._steps, shown), ("zero", self._limit))
        self._end_entry(entry, passed, over)
        build.here(shown)
        build.check(("same", start, self._thing), True)
        build.write(("zero", start), ("zero", self._limit), ("jump", passed))
        build.begin_one(more)
        build.check(("less", self._taken, self._limit), True)
        build.write(("up", self._taken))
        self._writer.take_step(self._form, self._scope, self._ends)
        build.write(("jump", again))

    def _end_entry(self, entry, passed, over):
        """Behind the trace of an entry, or of the last list."""
        build = self._build
        start, end = self._ends
        inner, listed = build.spot(), build.spot()
        build.check(("less", start, self._floor), False)
        build.write(("copy", self._floor, start), ("up", self._floor), ("same", self._thing, build.size_cell(), inner))
        build.check(("same", start, self._last), False)
        build.write(("jump", listed))
        build.here(inner)
        build.check(("same", start, self._thing), False)
        build.write(("copy", end, self._thing))
        self._writer.take(self._form.parts[0], self._scope + self._ends, False)
        build.write(("zero", end))
        build.here(listed)
        build.write(("zero", start), ("up", self._done), ("same", self._done, self._count, entry))
        build.write(("zero", self._done), ("zero", self._floor))
        build.write(("same", self._thing, build.size_cell(), passed), ("jump", over))

    def _end_round(self, around, last):
        """The round is over; either the last list follows, or another round with the new count and one step more."""
        build = self._build
        grown = build.spot()
        build.write(("same", self._number, self._count, grown), ("jump", last))
        build.here(grown)
        build.write(("copy", self._count, self._number), ("zero", self._number), ("up", self._steps), ("jump", around))
