"""Drawn readers: always the same ones for the same seed."""

import random

from oncethrough.readers import Reader
from oncethrough.stores import Store
from samples import made

WORDS = ("read", "read", "read", "zero", "top", "up", "copy", "same", "less", "has", "link", "jump", "refuse", "end")


def drawn_row(draw, cells, rows, word):
    def cell():
        return draw.randrange(cells)

    def at():
        return draw.randrange(rows)

    return {"read": lambda: ("read", cell()), "zero": lambda: ("zero", cell()), "top": lambda: ("top", cell()),
            "up": lambda: ("up", cell()), "copy": lambda: ("copy", cell(), cell()),
            "same": lambda: ("same", cell(), cell(), at()), "less": lambda: ("less", cell(), cell(), at()),
            "has": lambda: ("has", "red", cell(), at()), "link": lambda: ("link", "road", cell(), cell(), at()),
            "jump": lambda: ("jump", at()), "refuse": lambda: ("refuse",), "end": lambda: ("end",)}[word]()


def drawn_reader(draw, most_cells, most_rows, ranges=(0, 0, 1, 2, 3), words=WORDS):
    many = draw.randint(1, most_rows)
    inputs = draw.randint(0, min(2, most_cells))
    cells = [0] * inputs + [draw.choice(ranges) for _ in range(draw.randint(0, most_cells - inputs))]
    # Without cells there are rows of few kinds alone.
    allowed = words if cells else [word for word in words if word in ("jump", "refuse", "end")]
    last = [word for word in allowed if word in ("jump", "refuse", "end", "end")]
    rows = [drawn_row(draw, len(cells), many, draw.choice(allowed)) for _ in range(many - 1)]
    rows.append(drawn_row(draw, len(cells), many, draw.choice(last)))
    return Reader(cells, rows, inputs=inputs)


def drawn_store(draw, most=3):
    size = draw.randint(1, most)
    red = [thing for thing in range(size) if draw.random() < 0.5]
    road = [(one, two) for one in range(size) for two in range(size) if draw.random() < 0.4]
    return made(size, red, road)


def drawn_pairs(seed, many, most_cells, most_rows, most_size=3, **more):
    """Readers with stores and inputs."""
    draw = random.Random(seed)
    for _ in range(many):
        reader = drawn_reader(draw, most_cells, most_rows, **more)
        store = drawn_store(draw, most_size)
        yield reader, store, tuple(draw.randrange(store.size) for _ in range(reader.inputs))


def drawn_marks(draw, most, greatest=3):
    return [draw.randint(0, greatest) for _ in range(draw.randint(0, most))]


PLAIN = Store(2, {"red": (1, [(1,)]), "road": (2, [(0, 1)])})
