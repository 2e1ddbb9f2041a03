"""[15] written out a second time: which lists are counter-papers, straight from the text."""

from itertools import product

import plainly


class Wrong(Exception):
    pass


class Marks:
    """A list of marks that is taken from the left."""

    def __init__(self, marks):
        self.marks = list(marks)
        self.at = 0

    def take(self, many):
        """The next mark, from 0 to many - 1."""
        if self.at == len(self.marks) or type(self.marks[self.at]) is not int or self.marks[self.at] not in range(many):
            raise Wrong()
        self.at += 1
        return self.marks[self.at - 1]


def standings(reader, store):
    numbers = [range(plainly.top(reader, store, cell) + 1) for cell in range(len(reader.cells))]
    return list(product(range(len(reader.rows)), *numbers))


def beginning(reader, inputs):
    return (0, *inputs, *[0] * (len(reader.cells) - reader.inputs))


def steps(reader, store, standing):
    """All standings to which a step leads, by the mark that it reads, or None."""
    row, cells = standing[0], standing[1:]
    word = reader.rows[row][0]
    if word == "end":
        return {}
    if word == "read":
        cell = reader.rows[row][1]
        return {mark: (row + 1, *cells[:cell], mark, *cells[cell + 1:]) for mark in plainly.marks_at(reader, store, row)}
    behind = plainly.step(reader, store, row, cells)
    return {} if isinstance(behind, str) else {None: (behind[0], *behind[1])}


def take_trace(reader, store, inputs, marks, most):
    """Takes a trace of at most so many steps; tells where it ends."""
    standing = beginning(reader, inputs)
    taken = 0
    while marks.take(2) == 1:
        behind = steps(reader, store, standing)
        if taken == most or not behind:
            raise Wrong()
        if None not in behind:
            standing = behind[marks.take(len(behind))]
        else:
            standing = behind[None]
        taken += 1
    return standing


def take_all(reader, store, inputs, marks):
    """Takes a counter-paper."""
    count, most = 1, 0
    every = standings(reader, store)
    while True:
        number = 0
        for goal in every:
            if marks.take(2) == 1:
                if take_trace(reader, store, inputs, marks, most + 1) != goal:
                    raise Wrong()
                number += 1
            else:
                ends = [take_trace(reader, store, inputs, marks, most)]
                check_entry(reader, store, ends[-1], goal)
                for _ in range(count - 1):
                    ends.append(take_trace(reader, store, inputs, marks, most))
                    check_entry(reader, store, ends[-1], goal)
                    if ends[-2] >= ends[-1]:
                        raise Wrong()
        if number == count:
            break
        count, most = number, most + 1
    ends = [take_trace(reader, store, inputs, marks, most) for _ in range(count)]
    if ends != sorted(set(ends)) or any(reader.rows[end[0]][0] == "end" for end in ends):
        raise Wrong()
    if marks.at < len(marks.marks):
        raise Wrong()


def check_entry(reader, store, end, goal):
    if end == goal or goal in steps(reader, store, end).values():
        raise Wrong()


def is_counter_paper(reader, store, inputs, marks):
    try:
        take_all(reader, store, inputs, Marks(marks))
    except Wrong:
        return False
    return True


def waves(reader, store, inputs):
    """The standings that at most 0, 1, 2 .. steps reach, until there is none more."""
    found = [{beginning(reader, inputs)}]
    while len(found) == 1 or found[-1] != found[-2]:
        found.append(found[-1] | {after for one in found[-1] for after in steps(reader, store, one).values()})
    return found


def some_trace(draw, reader, store, inputs, most, goal):
    """A drawn trace of at most so many steps that ends at the goal, not only a shortest one."""
    every = standings(reader, store)
    behind = [{goal}]
    for _ in range(most):
        behind.append({one for one in every if behind[-1] & set(steps(reader, store, one).values())})
    one = beginning(reader, inputs)
    many = draw.choice([length for length, some in enumerate(behind) if one in some])
    marks = []
    for left in range(many - 1, -1, -1):
        mark, one = draw.choice([(mark, after) for mark, after in steps(reader, store, one).items() if after in behind[left]])
        marks += [1] if mark is None else [1, mark]
    return marks + [0]


def some_counter_paper(draw, reader, store, inputs):
    """A counter-paper with drawn traces, of a reader that accepts no paper."""
    found = waves(reader, store, inputs)
    marks = []
    for most in range(len(found) - 1):
        for goal in standings(reader, store):
            if goal in found[most + 1]:
                marks += [1, *some_trace(draw, reader, store, inputs, most + 1, goal)]
            else:
                marks += [0]
                for end in sorted(found[most]):
                    marks += some_trace(draw, reader, store, inputs, most, end)
    for end in sorted(found[-1]):
        marks += some_trace(draw, reader, store, inputs, len(found) - 2, end)
    return marks
