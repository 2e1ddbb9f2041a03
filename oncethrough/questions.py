"""Questions: names, a saying over them, and their text."""

from oncethrough.errors import InvalidNames, InvalidSaying, InvalidText
from oncethrough.sayings import MOST_DEEP, is_within_limits, read_saying, sayings_in, table_uses, words_of
from oncethrough.words import is_name

MOST_NAMES = 3

# A saying of these alone that holds goes on to hold when rows are put.
GROWING = ("has", "link", "same", "less", "and", "or", "some", "all", "way", "within")


def are_names(value):
    """True if any value is a list or tuple of at most 3 different names."""
    if not isinstance(value, (list, tuple)) or len(value) > MOST_NAMES:
        return False
    return all([is_name(name) for name in value]) and len(set(value)) == len(value)


class Question:
    """Names and a saying in which they are in scope. A question never changes."""

    def __init__(self, names, saying):
        if not are_names(names):
            raise InvalidNames(names)
        if not is_within_limits(names, saying):
            raise InvalidSaying(saying)
        self.names = tuple(names)
        self.saying = saying
        self.forms = len(sayings_in(saying))

    def tables(self):
        """The names of the tables that occur, with their numbers of places."""
        return {name: places for name, places in sorted(table_uses(self.saying))}

    def denied(self):
        """The question that holds where this one does not."""
        if self.saying[0] == "not":
            return Question(self.names, self.saying[1])
        return Question(self.names, ("not", self.saying))

    def grows(self):
        """True if the saying has only forms that stay true when rows are put."""
        return all([form[0] in GROWING for form in sayings_in(self.saying)])

    def text(self):
        """The text of the question."""
        return " ".join([*self.names, ":", *words_of(self.saying)])

    @staticmethod
    def read(text):
        """The question of a text."""
        if not isinstance(text, str):
            raise InvalidText(0)
        words = text.split(" ")
        if ":" not in words[:MOST_NAMES + 1]:
            raise InvalidText(0)
        colon = words.index(":")
        saying, behind = read_saying(words, colon + 1, MOST_DEEP)
        if behind < len(words):
            raise InvalidText(0)
        try:
            return Question(words[:colon], saying)
        except (InvalidNames, InvalidSaying):
            raise InvalidText(0) from None

    def __and__(self, other):
        return self._joined("and", other)

    def __or__(self, other):
        return self._joined("or", other)

    def __eq__(self, other):
        return isinstance(other, Question) and self.names == other.names and self.saying == other.saying

    def __repr__(self):
        return str(self.text())

    def _joined(self, word, other):
        if self.names != other.names:
            raise InvalidNames(other.names)
        return Question(self.names, (word, self.saying, other.saying))
