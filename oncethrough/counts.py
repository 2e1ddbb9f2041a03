"""How many papers of each length there are.

The numbers of papers stand in a dict from lengths to numbers, without zeros and without lengths beyond a most.
"""

from oncethrough.chains import Weighing


def later(counts, marks, most):
    """The numbers with so many marks more in each paper."""
    return {length + marks: counts[length] for length in counts if length + marks <= most}


def added(one, other):
    """The numbers of papers that are counted in one or the other, but not in both."""
    total = {length: one[length] for length in one}
    for length in other:
        total[length] = total.get(length, 0) + other[length]
    return total


def joined(one, other, most):
    """The numbers of papers that have a paper of the one ahead and one of the other behind."""
    total = {}
    for length in one:
        for more in other:
            if length + more <= most:
                total[length + more] = total.get(length + more, 0) + one[length] * other[more]
    return total


class Counts(Weighing):
    """The numbers of papers with at most so many marks."""

    def __init__(self, ground, most):
        Weighing.__init__(self, ground)
        self._most = most
        self._walks = {}

    def of_mark(self, mark):
        """There is one way to write one mark."""
        return later({0: 1}, 1, self._most)

    def of_choice(self, parts):
        """The numbers of papers with one of these pairs of a mark and an aim."""
        total = {}
        for _, part in parts:
            total = added(total, self.of_paper(part))
        return later(total, 1, self._most)

    def of_chain(self, aim, chain):
        """The numbers of papers with all segments; there is one way only to part a paper into segments."""
        total = {0: 1}
        for segment in chain:
            total = joined(total, self.of_segment(aim, segment), self._most)
            if total == {}:
                return total
        return total

    def of_step(self, counts):
        """The bit 1 and the thing stand ahead of the paper of a step."""
        return later(counts, 2, self._most)

    def of_trace(self, aim, steps, end):
        """The numbers of traces of at most so many steps that end there."""
        walks = self._walks_of(aim, steps)
        total = {}
        for walk in walks if steps is None else walks[:steps + 1]:
            total = added(total, walk.get(end, {}))
        return later(total, 1, self._most)

    def _walks_of(self, aim, steps):
        """For exactly 0, 1, 2 .. steps: a dict from things to the numbers of traces to there, without their last bit.

        There are the walks of so many steps, perhaps also of more; behind an empty dict all are empty.
        """
        key = (*aim.steps_key(), aim.things()[0])
        if key not in self._walks:
            self._walks[key] = [{aim.things()[0]: {0: 1}}]
        walks = self._walks[key]
        while walks[-1] != {} and (steps is None or len(walks) <= steps):
            walks.append(self._walk_behind(aim, walks[-1]))
        return walks

    def _walk_behind(self, aim, walk):
        """The walks with one step more."""
        steps = self.steps_from(aim)
        found = {}
        for start in walk:
            for end in steps[start]:
                more = joined(walk[start], steps[start][end], self._most)
                if more != {}:
                    found[end] = added(found.get(end, {}), more)
        return found
