"""Papers: which lists of marks are papers of a question, and what they look at."""

from oncethrough.errors import NoPaper
from oncethrough.forms import LOOKS, WAYS, chooses, parts_of
from oncethrough.meaning import Ground, passes
from oncethrough.words import is_number


def is_paper(store, question, inputs, marks):
    """True if the marks are a paper of the question."""
    try:
        looks_of(store, question, inputs, marks)
    except NoPaper:
        return False
    return True


def looks_of(store, question, inputs, marks):
    """The looks of a paper, ascending; raises NoPaper if the marks, any value, are none."""
    ground = Ground(store, question)
    aim = ground.aim(inputs, True)
    if not isinstance(marks, (list, tuple)):
        raise NoPaper()
    scan = Scan(ground, marks)
    scan.take_paper(aim)
    scan.check_over()
    return scan.found_looks()


class Scan:
    """Takes marks from the left, as the points of papers in the document say; raises NoPaper where one cannot stand."""

    def __init__(self, ground, marks):
        self._ground = ground
        self._marks = marks
        self._at = 0
        self._looks = {}
        self._empty = {}

    def take_paper(self, aim):
        """Takes a paper of the aim."""
        key = aim.key()
        # If one paper of an aim is empty, it has no other one, as no paper begins with another paper of the same aim.
        if key in self._empty:
            return
        start = self._at
        self._take_form(aim)
        if self._at == start:
            self._empty[key] = True

    def check_over(self):
        """Raises NoPaper if a mark is left."""
        if self._at < len(self._marks):
            raise NoPaper()

    def found_looks(self):
        """The looks so far, ascending."""
        return sorted(self._looks)

    def _take_form(self, aim):
        if aim.form.word == "count":
            self._take_count(aim)
        elif aim.form.word in WAYS and aim.yes:
            self._take_trace_to(aim, aim.form.most, aim.things()[1])
        elif aim.form.word in WAYS:
            self._take_rounds(aim)
        elif aim.form.parts == []:
            self._look(aim)
        elif chooses(aim):
            parts = parts_of(aim, self._ground.size)
            self.take_paper(parts[self._take_mark(len(parts))])
        else:
            for part in parts_of(aim, self._ground.size):
                self.take_paper(part)

    def _take_mark(self, many):
        """Takes one of the marks from 0 to many - 1."""
        if self._at == len(self._marks) or not is_number(self._marks[self._at], 0, many - 1):
            raise NoPaper()
        self._at += 1
        return self._marks[self._at - 1]

    def _look(self, aim):
        row = aim.things()
        if self._ground.answer_to(aim.form, row) != aim.yes:
            raise NoPaper()
        if aim.form.word in LOOKS:
            self._looks[(aim.form.table, row, aim.yes)] = True

    def _take_count(self, aim):
        number = 0
        for thing in range(self._ground.size):
            bit = self._take_mark(2)
            self.take_paper(aim.inner(0, (thing,), bit == 1))
            number += bit
        if passes(aim.form.test, number) != aim.yes:
            raise NoPaper()

    def _take_trace(self, aim, most):
        """Takes a trace of at most so many steps, or of any number if most is None; tells where it ends."""
        reached = aim.things()[0]
        steps = 0
        while self._take_mark(2) == 1:
            if steps == most:
                raise NoPaper()
            thing = self._take_mark(self._ground.size)
            self.take_paper(aim.step(reached, thing, True))
            reached = thing
            steps += 1
        return reached

    def _take_trace_to(self, aim, most, end):
        if self._take_trace(aim, most) != end:
            raise NoPaper()

    def _take_rounds(self, aim):
        count = 1
        steps = 0
        while aim.form.most is None or steps < aim.form.most:
            number = self._take_round(aim, count, steps)
            if number == count:
                break
            count = number
            steps += 1
        self._take_list(aim, count, steps, aim.things()[1])

    def _take_round(self, aim, count, steps):
        """Takes a round; tells the number of the things with the bit 1."""
        number = 0
        for thing in range(self._ground.size):
            if self._take_mark(2) == 1:
                self._take_trace_to(aim, steps + 1, thing)
                number += 1
            else:
                self._take_entries(aim, count, steps, thing)
        return number

    def _take_entries(self, aim, count, steps, thing):
        """Takes entries, which show that no step leads to the thing."""
        ahead = -1
        for _ in range(count):
            ahead = self._take_end(aim, steps, ahead, thing)
            self.take_paper(aim.step(ahead, thing, False))

    def _take_list(self, aim, count, steps, barred):
        """Takes the last list, which shows that the barred thing is none of those that are reached."""
        ahead = -1
        for _ in range(count):
            ahead = self._take_end(aim, steps, ahead, barred)

    def _take_end(self, aim, steps, ahead, barred):
        """Takes a trace that ends at a thing greater than the one ahead and other than the barred one; tells it."""
        end = self._take_trace(aim, steps)
        if end <= ahead or end == barred:
            raise NoPaper()
        return end
