"""Sayings and stores that several test files go through."""

from itertools import product

from oncethrough.stores import Store

HAS = ("has", "red", "a")
LINK = ("link", "road", "x", "y")

TESTS = [("least", k) for k in range(9)] + [("most", k) for k in range(9)]
TESTS += [("rest", m, r) for m in range(2, 9) for r in range(m)]

# One saying of each kind at least, over the names a and b.
KINDS = (
    HAS,
    ("link", "road", "a", "b"),
    ("link", "road", "b", "b"),
    ("same", "a", "b"),
    ("less", "a", "b"),
    ("not", HAS),
    ("not", ("not", ("less", "b", "a"))),
    ("and", HAS, ("has", "red", "b")),
    ("or", HAS, ("has", "red", "b")),
    ("some", "x", ("link", "road", "a", "x")),
    ("all", "x", ("link", "road", "x", "b")),
    ("count", "x", ("least", 2), ("link", "road", "a", "x")),
    ("count", "x", ("most", 1), ("has", "red", "x")),
    ("count", "x", ("rest", 2, 1), ("link", "road", "x", "x")),
    ("way", "x", "y", LINK, "a", "b"),
    ("within", 0, "x", "y", LINK, "a", "b"),
    ("within", 1, "x", "y", LINK, "a", "b"),
    ("within", 2, "x", "y", LINK, "a", "b"),
)

# Sayings within one another, also with names that are bound twice in different parts.
NESTED = (
    ("and", ("or", HAS, ("has", "red", "b")), ("not", ("same", "a", "b"))),
    ("or", ("and", HAS, ("less", "a", "b")), ("or", ("has", "red", "b"), ("link", "road", "a", "b"))),
    ("and", ("some", "x", ("link", "road", "a", "x")), ("all", "x", ("or", ("has", "red", "x"), ("less", "x", "b")))),
    ("or", ("way", "x", "y", LINK, "a", "b"), ("way", "y", "x", LINK, "b", "a")),
    ("some", "x", ("all", "y", ("or", LINK, ("same", "x", "y")))),
    ("all", "x", ("some", "y", ("and", LINK, ("not", ("same", "x", "y"))))),
    ("not", ("count", "x", ("most", 1), ("some", "y", LINK))),
    ("count", "x", ("rest", 3, 1), ("count", "y", ("least", 1), LINK)),
    ("count", "x", ("least", 1), ("way", "u", "v", ("link", "road", "u", "v"), "a", "x")),
    ("way", "x", "y", ("or", LINK, ("link", "road", "y", "x")), "a", "b"),
    ("way", "x", "y", ("and", LINK, ("not", ("has", "red", "y"))), "a", "b"),
    ("way", "x", "y", ("some", "z", ("and", ("link", "road", "x", "z"), ("link", "road", "z", "y"))), "b", "a"),
    ("way", "x", "y", ("way", "u", "v", ("and", ("link", "road", "u", "v"), ("less", "u", "v")), "x", "y"), "a", "b"),
    ("way", "x", "y", ("not", ("within", 1, "u", "v", ("link", "road", "u", "v"), "x", "y")), "a", "b"),
    ("not", ("way", "x", "y", ("count", "z", ("most", 1), ("link", "road", "z", "y")), "a", "b")),
    ("within", 1, "x", "y", ("not", LINK), "a", "b"),
    ("within", 8, "x", "y", ("less", "x", "y"), "a", "b"),
    ("within", 2, "x", "y", ("or", LINK, ("and", HAS, ("same", "y", "b"))), "a", "b"),
    ("way", "x", "y", HAS, "a", "b"),
    ("way", "x", "y", LINK, "a", "a"),
    ("not", ("some", "x", ("way", "u", "v", ("and", ("link", "road", "u", "v"), ("less", "a", "v")), "x", "b"))),
)


def made(size, red, road):
    return Store(size, {"red": (1, [(thing,) for thing in red]), "road": (2, list(road))})


def pairs(size):
    return list(product(range(size), repeat=2))


def every_small_store():
    """All stores of one thing, and of two things."""
    found = []
    for size in (1, 2):
        for bits in product((0, 1), repeat=size + size * size):
            red = [thing for thing in range(size) if bits[thing]]
            road = [pair for pair, bit in zip(pairs(size), bits[size:]) if bit]
            found.append(made(size, red, road))
    return found


def some_stores():
    """A few stores of three and four things."""
    return [
        made(3, [], []),
        made(3, [0, 1, 2], pairs(3)),
        made(3, [1], [(0, 1)]),
        made(3, [0, 2], [(0, 1), (1, 2)]),
        made(3, [2], [(0, 1), (1, 2), (2, 0)]),
        made(3, [0], [(0, 0), (0, 2), (2, 0), (1, 1)]),
        made(4, [1, 2], [(0, 1), (1, 0), (2, 3)]),
        made(4, [3], [(0, 2), (2, 1), (1, 3), (3, 3)]),
    ]


def line(size):
    return made(size, [], [(thing, thing + 1) for thing in range(size - 1)])


def ring(size):
    return made(size, [], [(thing, (thing + 1) % size) for thing in range(size)])
