"""Tails: how many lists of marks lead from each stop of a graph to an end, and which ones."""


class Tails:
    """The numbers of tails with at most so many marks."""

    def __init__(self, graph, most):
        self._graph = graph
        # For each number of marks and each stop the number of tails.
        self._many = [[1 if graph.is_end(at) else 0 for at in range(len(graph.stops))]]
        shares = [shares_of(moves) for moves in graph.moves]
        while len(self._many) <= most:
            ahead = self._many[-1]
            sums = [sum([share[stop] * ahead[stop] for stop in share]) for share in shares]
            self._many.append([sums[kind] for kind in graph.kinds])

    def many(self, length):
        """How many accepted papers have so many marks."""
        return self._many[length][0] if self._graph.stops != [] else 0

    def choices(self, at, length):
        """The marks at a stop that begin a tail of so many marks, ascending, each with its stop and number of tails."""
        if length == 0:
            return []
        moves = self._graph.moves[self._graph.kinds[at]]
        ahead = self._many[length - 1]
        return [(mark, stop, ahead[stop]) for mark, stop in moves.items() if ahead[stop] > 0]

    def paper_at(self, length, at):
        """The accepted paper of so many marks that has this number among all of them."""
        marks = []
        stop = 0
        for left in range(length, 0, -1):
            for mark, after, many in self.choices(stop, left):
                if at < many:
                    marks.append(mark)
                    stop = after
                    break
                at -= many
        return marks

    def lists_from(self, at, length):
        """The tails of so many marks from a stop on, ascending."""
        if length == 0:
            yield []
        for mark, stop, _ in self.choices(at, length):
            for rest in self.lists_from(stop, length - 1):
                yield [mark, *rest]

    def place_of(self, marks):
        """The number of an accepted paper among those with equally many marks."""
        place = 0
        stop = 0
        for at, taken in enumerate(marks):
            choices = self.choices(stop, len(marks) - at)
            place += sum([many for mark, _, many in choices if mark < taken])
            stop = self._graph.moves[self._graph.kinds[stop]][taken]
        return place


def shares_of(moves):
    """How many marks lead to each stop."""
    shares = {}
    for stop in moves.values():
        shares[stop] = shares.get(stop, 0) + 1
    return shares
