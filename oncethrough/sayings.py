"""Sayings: which tuples are sayings, what stands within them, and their words."""

from oncethrough.errors import InvalidText
from oncethrough.words import is_name, is_number, number_in

MOST_FORMS = 12
MOST_DEEP = 6
MOST_SCOPE = 6
MOST_BOUND = 8

# What stands behind the first word of each saying: a table, a name in scope, a name that comes
# into scope, a number of steps, a test or a saying.
SHAPES = {
    "has": ("table", "name"),
    "link": ("table", "name", "name"),
    "same": ("name", "name"),
    "less": ("name", "name"),
    "not": ("saying",),
    "and": ("saying", "saying"),
    "or": ("saying", "saying"),
    "some": ("new", "saying"),
    "all": ("new", "saying"),
    "count": ("new", "test", "saying"),
    "way": ("new", "new", "saying", "name", "name"),
    "within": ("steps", "new", "new", "saying", "name", "name"),
}

# How many numbers stand behind the first word of each test.
TESTS = {"least": 1, "most": 1, "rest": 2}


def is_test(value):
    """True if any value is a test of a count."""
    if not isinstance(value, tuple):
        return False
    if len(value) == 2:
        return value[0] in ("least", "most") and is_number(value[1], 0, MOST_BOUND)
    if len(value) != 3 or value[0] != "rest" or not is_number(value[1], 2, MOST_BOUND):
        return False
    return is_number(value[2], 0, value[1] - 1)


def has_shape(value):
    """True if any value is a tuple of a known first word and as many items as belong to it."""
    if not isinstance(value, tuple) or value == () or not isinstance(value[0], str):
        return False
    return value[0] in SHAPES and len(value) == len(SHAPES[value[0]]) + 1


def is_saying(value, scope, deep):
    """True if any value is a saying with these names in scope, nested at most so deep."""
    if deep == 0 or not has_shape(value):
        return False
    shape = SHAPES[value[0]]
    inner = (*scope, *[item for item, kind in zip(value[1:], shape) if kind == "new"])
    if len(inner) > MOST_SCOPE:
        return False
    return all([is_item(kind, item, scope, inner, deep) for item, kind in zip(value[1:], shape)])


def is_item(kind, item, scope, inner, deep):
    """True if an item is of this kind; scope holds around the saying, inner holds within it."""
    if kind == "saying":
        return is_saying(item, inner, deep - 1)
    if kind == "test":
        return is_test(item)
    if kind == "steps":
        return is_number(item, 0, MOST_BOUND)
    if not is_name(item):
        return False
    if kind == "name":
        return item in scope
    # A new name is in inner twice if it was in scope already, or if the other new name is the same.
    return kind == "table" or inner.count(item) == 1


def sayings_in(saying):
    """The saying itself and all sayings within it, from the left."""
    parts = [item for item, kind in zip(saying[1:], SHAPES[saying[0]]) if kind == "saying"]
    return [saying, *[inner for part in parts for inner in sayings_in(part)]]


def table_uses(saying):
    """A pair of the table and its number of places for each has and link in a saying."""
    return [(form[1], len(form) - 2) for form in sayings_in(saying) if form[0] in ("has", "link")]


def is_within_limits(names, saying):
    """True if any value is a saying that a question with these names may have."""
    if not is_saying(saying, names, MOST_DEEP) or len(sayings_in(saying)) > MOST_FORMS:
        return False
    uses = table_uses(saying)
    return len(set(uses)) == len({use[0] for use in uses})


def words_of(items):
    """The words of a saying or a test, from the left."""
    return [word for item in items for word in (words_of(item) if isinstance(item, tuple) else [str(item)])]


def word_at(words, at):
    """The word at this place; raises InvalidText if the words are over."""
    if at >= len(words):
        raise InvalidText(0)
    return words[at]


def read_saying(words, at, deep):
    """The saying whose words begin at this place, and the place behind it.

    Its names and numbers are taken as they stand: the question checks them.
    """
    first = word_at(words, at)
    # The depth is limited here too, so that a text that is nested without measure ends the reading early.
    if deep == 0 or first not in SHAPES:
        raise InvalidText(0)
    items = [first]
    at += 1
    for kind in SHAPES[first]:
        item, at = read_item(kind, words, at, deep)
        items.append(item)
    return tuple(items), at


def read_item(kind, words, at, deep):
    """The item of this kind whose words begin at this place, and the place behind it."""
    if kind == "saying":
        return read_saying(words, at, deep - 1)
    if kind == "test":
        return read_test(words, at)
    if kind == "steps":
        return number_in(word_at(words, at)), at + 1
    return word_at(words, at), at + 1


def read_test(words, at):
    """The test whose words begin at this place, and the place behind it."""
    first = word_at(words, at)
    if first not in TESTS:
        raise InvalidText(0)
    behind = at + 1 + TESTS[first]
    return (first, *[number_in(word_at(words, place)) for place in range(at + 1, behind)]), behind
