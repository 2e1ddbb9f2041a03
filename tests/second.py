"""[4] and [7] written out a second time, without the package: what sayings mean, and all papers up to a length.

A store is a pair of a size and a dict from names to sets of rows. Nothing here is clever: papers are made, not read.
"""

from itertools import product


def passes(test, number):
    if test[0] == "rest":
        return number % test[1] == test[2]
    return number >= test[1] if test[0] == "least" else number <= test[1]


def atom(store, saying, scope):
    things = tuple(scope[name] for name in saying[1 if saying[0] in ("same", "less") else 2:])
    if saying[0] == "same":
        return things[0] == things[1]
    if saying[0] == "less":
        return things[0] < things[1]
    return things in store[1][saying[1]]


def truth(store, saying, scope):
    """True if the saying holds, straight from [4]."""
    word, things = saying[0], range(store[0])
    if word == "not":
        return not truth(store, saying[1], scope)
    if word == "and":
        return truth(store, saying[1], scope) and truth(store, saying[2], scope)
    if word == "or":
        return truth(store, saying[1], scope) or truth(store, saying[2], scope)
    if word == "some":
        return any(truth(store, saying[2], {**scope, saying[1]: thing}) for thing in things)
    if word == "all":
        return all(truth(store, saying[2], {**scope, saying[1]: thing}) for thing in things)
    if word == "count":
        return passes(saying[2], sum(truth(store, saying[3], {**scope, saying[1]: thing}) for thing in things))
    if word in ("way", "within"):
        return reaches(store, saying, scope)
    return atom(store, saying, scope)


def reaches(store, saying, scope):
    """All lists of so many steps are gone through by taking steps from every thing that was reached."""
    one, two, inner, start, end = saying[-5:]
    most = saying[1] if saying[0] == "within" else store[0]
    steps = [pair for pair in product(range(store[0]), repeat=2)
             if truth(store, inner, {**scope, one: pair[0], two: pair[1]})]
    reached = {scope[start]}
    for _ in range(most):
        reached = reached | {target for source, target in steps if source in reached}
    return scope[end] in reached


def behind(first, makers, most):
    """All lists of marks that begin with these and go on with one list of each maker, as (marks, told)."""
    if len(first) > most:
        return
    if not makers:
        yield first
        return
    for marks in makers[0](most - len(first)):
        yield from behind(first + marks, makers[1:], most)


def maker(store, saying, scope, yes):
    return lambda most: papers(store, saying, scope, yes, most)


def papers(store, saying, scope, yes, most):
    """All yes papers or no papers with at most so many marks, in no order."""
    word = saying[0]
    if word == "not":
        yield from papers(store, saying[1], scope, not yes, most)
    elif word in ("and", "or"):
        parts = [maker(store, part, scope, yes) for part in saying[1:]]
        yield from joined(parts, (word == "and") == yes, most)
    elif word in ("some", "all"):
        parts = [maker(store, saying[2], {**scope, saying[1]: thing}, yes) for thing in range(store[0])]
        yield from joined(parts, (word == "all") == yes, most)
    elif word == "count":
        yield from counts(store, saying, scope, yes, most)
    elif word in ("way", "within"):
        yield from ways(store, saying, scope, yes, most)
    elif atom(store, saying, scope) == yes:
        yield ()


def joined(parts, every, most):
    if every:
        yield from behind((), parts, most)
        return
    for mark, part in enumerate(parts):
        yield from behind((mark,), [part], most)


def counts(store, saying, scope, yes, most):
    for bits in product((0, 1), repeat=store[0]):
        if passes(saying[2], sum(bits)) == yes:
            makers = []
            for thing, bit in enumerate(bits):
                inner = maker(store, saying[3], {**scope, saying[1]: thing}, bit == 1)
                makers += [lambda most, bit=bit: [(bit,)], inner]
            yield from behind((), makers, most)


def ways(store, saying, scope, yes, most):
    way = (store, saying[-5:], scope)
    steps = saying[1] if saying[0] == "within" else None
    if not yes:
        yield from rounds(way, steps, 1, 0, most)
        return
    for marks, end in traces(way, steps, most):
        if end == scope[saying[-1]]:
            yield marks


def step_papers(way, source, target, yes, most):
    store, (one, two, inner, _, _), scope = way
    return papers(store, inner, {**scope, one: source, two: target}, yes, most)


def traces(way, steps, most):
    """All traces of at most so many steps, with the things at which they end."""
    pending = [((), way[2][way[1][3]], 0)]
    while pending:
        marks, thing, taken = pending.pop()
        if len(marks) + 1 > most:
            continue
        yield marks + (0,), thing
        if steps is None or taken < steps:
            for target in range(way[0][0]):
                for paper in step_papers(way, thing, target, True, most - len(marks) - 3):
                    pending.append((marks + (1, target) + paper, target, taken + 1))


def rounds(way, within, count, steps, most):
    """All rounds from this count on, with a last list behind."""
    if most < 0:
        return
    if steps == within:
        yield from last_lists(way, count, steps, most)
        return
    for marks, number in one_round(way, 0, count, steps, most):
        left = most - len(marks)
        if number == count:
            rests = last_lists(way, count, steps, left)
        else:
            rests = rounds(way, within, number, steps + 1, left)
        for rest in rests:
            yield marks + rest


def one_round(way, thing, count, steps, most):
    """All rounds from this thing on, with the numbers of their bits 1."""
    if most < 0:
        return
    if thing == way[0][0]:
        yield (), 0
        return
    firsts = [((1,) + marks, 1) for marks, end in traces(way, steps + 1, most - 1) if end == thing]
    firsts += [((0,) + marks, 0) for marks in entries(way, thing, count, steps, most - 1, -1)]
    for marks, bit in firsts:
        for rest, number in one_round(way, thing + 1, count, steps, most - len(marks)):
            yield marks + rest, bit + number


def entries(way, thing, count, steps, most, ahead):
    """All lists of so many entries whose traces end at things greater than the one ahead."""
    if count == 0:
        if most >= 0:
            yield ()
        return
    for trace, end in traces(way, steps, most):
        if end > ahead and end != thing:
            for paper in step_papers(way, end, thing, False, most - len(trace)):
                left = most - len(trace) - len(paper)
                for rest in entries(way, thing, count - 1, steps, left, end):
                    yield trace + paper + rest


def last_lists(way, count, steps, most, ahead=-1):
    if count == 0:
        if most >= 0:
            yield ()
        return
    for trace, end in traces(way, steps, most):
        if end > ahead and end != way[2][way[1][4]]:
            for rest in last_lists(way, count - 1, steps, most - len(trace), end):
                yield trace + rest
