"""Weights: how long papers are, how many there are, and the first ones, without going through all of them."""

from oncethrough.counts import Counts
from oncethrough.errors import InvalidNumber, NoPaper, TooLong
from oncethrough.lengths import Firsts, Lengths
from oncethrough.meaning import Ground
from oncethrough.words import is_number

MOST_MARKS = 5000
MOST_COUNTED = 40


class Weigher:
    """Tells of the yes papers and no papers of a question in a store."""

    def __init__(self, store, question):
        self._ground = Ground(store, question)
        self._lengths = Lengths(self._ground)
        self._firsts = Firsts(self._ground, self._lengths)

    def least(self, *inputs, yes=True):
        """The least number of marks of a paper, or None if there is no paper."""
        aim = self._ground.aim(inputs, yes)
        return self._lengths.of_paper(aim) if self._ground.is_so(aim) else None

    def counted(self, *inputs, most=20, yes=True):
        """How many papers there are with 0, 1, 2 .. and at last with most marks."""
        aim = self._ground.aim(inputs, yes)
        if not is_number(most, 0, MOST_COUNTED):
            raise InvalidNumber(most)
        counts = Counts(self._ground, most).of_paper(aim) if self._ground.is_so(aim) else {}
        return [counts.get(length, 0) for length in range(most + 1)]

    def first(self, *inputs, yes=True):
        """The least list, in the order of Python, among the papers with the fewest marks."""
        aim = self._ground.aim(inputs, yes)
        if not self._ground.is_so(aim):
            raise NoPaper()
        if self._lengths.of_paper(aim) > MOST_MARKS:
            raise TooLong(MOST_MARKS)
        return list(self._firsts.of_paper(aim))
