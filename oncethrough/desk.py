"""The desk: a shelf on which is worked by lines of words, which are answered with strings."""

from oncethrough.errors import Missing, NothingLeft, OnceError
from oncethrough.questions import Question
from oncethrough.weights import Weigher
from oncethrough.words import LONGEST_NAME, number_in

# The answer to a line that has no form.
WHAT = "what"

# A table has so many signs for the number of marks.
NUMBER_SIGNS = 5


def claims_table(shelf):
    """For each claim, ascending, a string with its name, its number of marks, and whether it stands."""
    rows = []
    for name in shelf.claimed():
        marks = str(len(shelf.claim(name).marks))
        rows.append(f"{name.ljust(LONGEST_NAME)} {marks.rjust(NUMBER_SIGNS)} {word_for(shelf, name)}")
    return rows


def word_for(shelf, name):
    """Whether the claim stands."""
    return "stands" if shelf.stands(name) else "doubtful"


class Desk:
    """Answers lines; what they tell it to do is done on this shelf itself."""

    def __init__(self, shelf):
        self.shelf = shelf

    def answer(self, line):
        """The answer to a line."""
        words = line.split(" ")
        if "" in words:
            return WHAT
        try:
            return self._answer_to(words)
        except (OnceError, Missing, NothingLeft) as error:
            return f"error {error.code}"

    def _answer_to(self, words):
        if words[0] in ("put", "drop") and len(words) > 1:
            return self._put_or_drop(words)
        if words[0] == "ask" and ":" in words:
            return self._ask(words)
        if words[0] == "claim" and ":" in words[2:]:
            return self._claim(words)
        if words[0] in ("again", "forget") and len(words) == 2:
            self.shelf.do((words[0], words[1]))
            return "ok"
        if words == ["undo"]:
            self.shelf.undo()
            return "ok"
        if words == ["redo"]:
            self.shelf.redo()
            return "ok"
        return self._states() if words == ["states"] else WHAT

    def _put_or_drop(self, words):
        things = numbers_in(words[2:])
        if things is None:
            return WHAT
        names = self.shelf.do((words[0], words[1], *things))
        return " ".join(["doubtful", *names]) if names != [] else "all stand"

    def _ask(self, words):
        colon = words.index(":")
        inputs = numbers_in(words[1:colon])
        if inputs is None:
            return WHAT
        weigher = Weigher(self.shelf.store, Question.read(" ".join(words[colon + 1:])))
        least = weigher.least(*inputs)
        if least is not None:
            return f"yes {least}"
        denied = weigher.least(*inputs, yes=False)
        return f"no {denied}"

    def _claim(self, words):
        colon = words.index(":", 2)
        inputs = numbers_in(words[2:colon])
        if inputs is None:
            return WHAT
        text = " ".join(words[colon + 1:])
        # What is wrong with the question comes ahead of what is wrong with the name.
        marks = Weigher(self.shelf.store, Question.read(text)).first(*inputs)
        self.shelf.do(("claim", words[1], text, inputs, tuple(marks)))
        return f"claimed {len(marks)}"

    def _states(self):
        names = self.shelf.claimed()
        if names == []:
            return "nothing"
        return " ".join([f"{name} {word_for(self.shelf, name)}" for name in names])


def numbers_in(words):
    """The numbers that these words write, a tuple, or None if one of them writes none."""
    numbers = tuple([number_in(word) for word in words])
    return numbers if all([number >= 0 for number in numbers]) else None
