"""Least lengths and first papers of aims that are so."""

from oncethrough.chains import Weighing


class Lengths(Weighing):
    """The least lengths."""

    def __init__(self, ground):
        Weighing.__init__(self, ground)
        self._layers = {}

    def of_mark(self, mark):
        """One mark is one long, whatever it is."""
        return 1

    def of_choice(self, parts):
        """The least length with one of these pairs of a mark and an aim."""
        return 1 + min([self.of_paper(part) for _, part in parts])

    def of_chain(self, aim, chain):
        """The least length of all segments together."""
        return sum([self.of_segment(aim, segment) for segment in chain])

    def of_step(self, length):
        """The bit 1 and the thing stand ahead of the paper of a step."""
        return 2 + length

    def of_trace(self, aim, steps, end):
        """The least length of a trace of at most so many steps that ends there."""
        return self.layers_to(aim, end)[self.most_steps(steps)][aim.things()[0]]

    def most_steps(self, steps):
        """How many steps are enough where so many may be taken: a shortest trace comes nowhere twice."""
        return self.ground.size - 1 if steps is None else min(steps, self.ground.size - 1)

    def layers_to(self, aim, end):
        """For at most 0, 1, 2 .. steps: a dict from things to the least number of marks from there on to the end."""
        key = (*aim.steps_key(), end)
        if key not in self._layers:
            steps = self.steps_from(aim)
            layers = [{end: 1}]
            for _ in range(1, self.ground.size):
                layers.append(layer_behind(steps, layers[-1]))
            self._layers[key] = layers
        return self._layers[key]


def layer_behind(steps, layer):
    """The least numbers of marks to the end with one step more than in this layer, or with as many."""
    wider = {}
    for start, ends in enumerate(steps):
        found = [ends[thing] + layer[thing] for thing in ends if thing in layer]
        if start in layer:
            found.append(layer[start])
        if found != []:
            wider[start] = min(found)
    return wider


class Firsts(Weighing):
    """The first papers, as lists that nobody changes."""

    def __init__(self, ground, lengths):
        Weighing.__init__(self, ground)
        self._lengths = lengths

    def of_mark(self, mark):
        """The mark itself."""
        return [mark]

    def of_choice(self, parts):
        """The first paper with one of these pairs of a mark and an aim."""
        least = min([self._lengths.of_paper(part) for _, part in parts])
        shortest = [(mark, part) for mark, part in parts if self._lengths.of_paper(part) == least]
        mark, part = shortest[0]
        return [mark, *self.of_paper(part)]

    def of_chain(self, aim, chain):
        """The first papers and traces of all segments, one behind the other."""
        return [mark for segment in chain for mark in self.of_segment(aim, segment)]

    def of_trace(self, aim, steps, end):
        """The first trace of at most so many steps that ends there."""
        layers = self._lengths.layers_to(aim, end)
        left = self._lengths.most_steps(steps)
        reached = aim.things()[0]
        trace = []
        while reached != end:
            left -= 1
            ends = self._lengths.steps_from(aim)[reached]
            least = layers[left + 1][reached]
            # All steps that leave enough marks for the rest come out at the same length, so the least thing is taken.
            thing = min([each for each in ends if each in layers[left] and ends[each] + layers[left][each] == least])
            trace.extend([1, thing, *self.of_paper(aim.step(reached, thing, True))])
            reached = thing
        return trace + [0]
