"""Pairs: two graphs that are gone through with the same marks."""

# In the place of a stop from which no end can be reached any more.
GONE = -1


def living(graph):
    """For each stop True if an end can be reached from it."""
    leading = [[] for _ in graph.stops]
    for kind, moves in enumerate(graph.moves):
        for stop in moves.values():
            leading[stop].append(kind)
    members = [[] for _ in graph.moves]
    for at, kind in enumerate(graph.kinds):
        members[kind].append(at)
    waiting = graph.ends()
    alive = {}
    while waiting != []:
        at = waiting.pop()
        for kind in leading[at]:
            if kind not in alive:
                alive[kind] = True
                waiting.extend(members[kind])
    return [graph.is_end(at) or graph.kinds[at] in alive for at in range(len(graph.stops))]


class Side:
    """One of the two graphs."""

    def __init__(self, graph):
        self._graph = graph
        self._living = living(graph)

    def first(self):
        """The first stop."""
        return 0 if self._living != [] and self._living[0] else GONE

    def is_end(self, at):
        """True if the graph accepts at this stop."""
        return at != GONE and self._graph.is_end(at)

    def kind_of(self, at):
        """The kind of the stop."""
        return GONE if at == GONE else self._graph.kinds[at]

    def moves_of(self, at):
        """A dict from marks to the stops to which they lead and from which an end can be reached."""
        if at == GONE:
            return {}
        moves = self._graph.moves[self._graph.kinds[at]]
        return {mark: moves[mark] for mark in moves if self._living[moves[mark]]}


def first_difference(one, other):
    """The first shortest list of marks that leads to an end in exactly one of two graphs, or None."""
    sides = (Side(one), Side(other))
    pairs = [(sides[0].first(), sides[1].first())]
    # For each pair the one ahead and the mark between them.
    origins = {pairs[0]: None}
    kinds = {}
    at = 0
    while at < len(pairs):
        pair = pairs[at]
        if sides[0].is_end(pair[0]) != sides[1].is_end(pair[1]):
            return marks_behind(origins, pair)
        key = (sides[0].kind_of(pair[0]), sides[1].kind_of(pair[1]))
        # What follows a pair of kinds that was there before has been found with lesser marks.
        if key not in kinds:
            kinds[key] = True
            for mark, after in pairs_behind(sides, pair):
                if after not in origins:
                    origins[after] = (pair, mark)
                    pairs.append(after)
        at += 1
    return None


def pairs_behind(sides, pair):
    """The marks on from a pair, ascending, each with the pair to which it leads."""
    one, other = sides[0].moves_of(pair[0]), sides[1].moves_of(pair[1])
    marks = sorted(set([*one, *other]))
    return [(mark, (one.get(mark, GONE), other.get(mark, GONE))) for mark in marks]


def marks_behind(origins, pair):
    """The marks that lead to a pair."""
    marks = []
    while origins[pair] is not None:
        pair, mark = origins[pair]
        marks.append(mark)
    return marks[::-1]
