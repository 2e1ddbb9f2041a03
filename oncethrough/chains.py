"""Chains: what the papers of an aim that is so are made of, so that they can be weighed without being written.

A chain is a list of segments: ("mark", bit), ("paper", aim), or ("trace", steps, end), a trace of at most so many
steps, or of any number if steps is None, that ends at this thing.
"""

from oncethrough.forms import WAYS, chooses, parts_of


def chain_of(ground, aim):
    """The segments of every paper of an aim that is so and that chooses no part."""
    if aim.form.word == "count":
        return tally(ground, aim)
    if aim.form.word in WAYS and aim.yes:
        return [("trace", aim.form.most, aim.things()[1])]
    if aim.form.word in WAYS:
        return rounds_of(ground, aim)
    return [("paper", part) for part in parts_of(aim, ground.size)]


def tally(ground, aim):
    """The segments of a count: only the one bit that is so has papers behind it."""
    chain = []
    for thing in range(ground.size):
        shown = aim.inner(0, (thing,), True)
        if ground.is_so(shown):
            chain.extend([("mark", 1), ("paper", shown)])
        else:
            chain.extend([("mark", 0), ("paper", aim.inner(0, (thing,), False))])
    return chain


def rounds_of(ground, aim):
    """The segments of the rounds and the last list."""
    waves = ground.waves(aim)
    chain = []
    for steps in range(len(waves) - 1):
        chain.extend(round_of(aim, steps, waves, ground.size))
    # The steps do not grow behind the round that finds no new thing, so they are those of the first wave of all things.
    steps = [len(wave) for wave in waves].index(len(waves[-1]))
    return chain + [("trace", steps, end) for end in waves[-1]]


def round_of(aim, steps, waves, size):
    """The segments of the round behind so many steps."""
    chain = []
    for thing in range(size):
        if thing in waves[steps + 1]:
            chain.extend([("mark", 1), ("trace", steps + 1, thing)])
        else:
            chain.append(("mark", 0))
            for end in waves[steps]:
                chain.extend([("trace", steps, end), ("paper", aim.step(end, thing, False))])
    return chain


class Weighing:
    """Something that is found for each aim that is so, out of what is found for the parts of its papers.

    A class below tells what there is for one mark (of_mark), for one of several parts (of_choice), for segments in a
    row (of_chain), for a step, out of what there is for its paper (of_step), and for a trace (of_trace).
    """

    def __init__(self, ground):
        self.ground = ground
        self._known = {}
        self._steps = {}

    def of_paper(self, aim):
        """What is found for the papers of an aim that is so."""
        key = aim.key()
        if key not in self._known:
            self._known[key] = self._weigh(aim)
        return self._known[key]

    def of_segment(self, aim, segment):
        """What is found for a segment of a chain of this aim."""
        if segment[0] == "mark":
            return self.of_mark(segment[1])
        if segment[0] == "paper":
            return self.of_paper(segment[1])
        return self.of_trace(aim, segment[1], segment[2])

    def steps_from(self, aim):
        """For each thing a dict from the things to which a step leads to what is found for that step."""
        key = aim.steps_key()
        if key not in self._steps:
            self._steps[key] = [self._steps_of(aim, start) for start in range(self.ground.size)]
        return self._steps[key]

    def _weigh(self, aim):
        if not chooses(aim):
            return self.of_chain(aim, chain_of(self.ground, aim))
        parts = parts_of(aim, self.ground.size)
        return self.of_choice([(mark, part) for mark, part in enumerate(parts) if self.ground.is_so(part)])

    def _steps_of(self, aim, start):
        shown = {end: aim.step(start, end, True) for end in range(self.ground.size)}
        return {end: self.of_step(self.of_paper(shown[end])) for end in shown if self.ground.is_so(shown[end])}
