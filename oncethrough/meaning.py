"""What questions mean: whether a saying holds in a store."""

from oncethrough.fitting import check_fits, check_inputs
from oncethrough.forms import WAYS, Aim, Form, chooses, parts_of


def truth(store, question, inputs):
    """True if the saying of the question holds for these inputs."""
    ground = Ground(store, question)
    return ground.is_so(ground.aim(inputs, True))


def passes(test, number):
    """True if a number of things passes the test of a count."""
    if test[0] == "least":
        return number >= test[1]
    if test[0] == "most":
        return number <= test[1]
    return number % test[1] == test[2]


class Ground:
    """A store and a question that it fits: which aims are so there."""

    def __init__(self, store, question):
        check_fits(store, question.tables())
        self._store = store
        self.size = store.size
        self._top = Form(question.saying, question.names)
        self._many = len(question.names)
        self._rows = {name: {row: True for row in store.rows_of(name)} for name in question.tables()}
        self._known = {}

    def aim(self, inputs, yes):
        """The aim of the whole question; raises InvalidInputs."""
        check_inputs(self._store, inputs, self._many)
        return Aim(self._top, tuple(inputs), yes)

    def is_so(self, aim):
        """True if that which the aim is to show is so."""
        key = aim.key()
        if key not in self._known:
            self._known[key] = self._find_out(aim)
        return self._known[key]

    def answer_to(self, form, row):
        """True if has, link, same or less holds for these things."""
        if form.word == "same":
            return row[0] == row[1]
        if form.word == "less":
            return row[0] < row[1]
        return row in self._rows[form.table]

    def waves(self, aim):
        """For way and within: the things that at most 0, 1, 2 .. steps reach, as ascending lists.

        It ends with the first list that is as long as the one ahead, or at the most steps of within.
        """
        waves = [[aim.things()[0]]]
        while aim.form.most is None or len(waves) <= aim.form.most:
            waves.append([thing for thing in range(self.size) if self._is_near(aim, waves[-1], thing)])
            if len(waves[-1]) == len(waves[-2]):
                break
        return waves

    def _find_out(self, aim):
        word = aim.form.word
        if word == "count":
            many = len([thing for thing in range(self.size) if self.is_so(aim.inner(0, (thing,), True))])
            return passes(aim.form.test, many) == aim.yes
        if word in WAYS:
            return (aim.things()[1] in self.waves(aim)[-1]) == aim.yes
        if aim.form.parts == []:
            return self.answer_to(aim.form, aim.things()) == aim.yes
        wanted = chooses(aim)
        for part in parts_of(aim, self.size):
            if self.is_so(part) == wanted:
                return wanted
        return not wanted

    def _is_near(self, aim, wave, thing):
        """True if the thing is in the wave, or one step leads there from it."""
        if thing in wave:
            return True
        for start in wave:
            if self.is_so(aim.step(start, thing, True)):
                return True
        return False
