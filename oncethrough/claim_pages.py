"""The pages of shelves: the lines of claims, behind those of a store."""

from oncethrough.errors import InvalidText, Unfit
from oncethrough.fitting import check_fits
from oncethrough.questions import Question
from oncethrough.stores import is_row, row_in, store_at_top
from oncethrough.words import is_name, number_in

MOST_CLAIMS = 12

# The first words of the lines of looks.
ANSWERS = {"yes": True, "no": False}


class ClaimLines:
    """What the lines of a claim tell, from the line `claim NAME` with this number on."""

    def __init__(self, line, name):
        self.line = line
        self.name = name
        self.question = None
        self.inputs = ()
        self.marks = ()
        self.looks = ()


def lines_of(name, claim):
    """The lines of a claim."""
    lines = [f"claim {name}", claim.question.text()]
    lines.append(" ".join(["inputs", *[str(thing) for thing in claim.inputs]]))
    lines.append(" ".join(["marks", *[str(mark) for mark in claim.marks]]))
    for table, row, answer in claim.looks:
        lines.append(" ".join(["yes" if answer else "no", table, *[str(thing) for thing in row]]))
    return lines


def store_and_claims(text):
    """The store of a page and what its lines tell of claims; the papers of these are not checked."""
    if not isinstance(text, str):
        raise InvalidText(0)
    lines = text.split("\n")
    store, at = store_at_top(lines)
    claims = []
    while at < len(lines):
        claim = ClaimLines(at, name_in(lines[at], claims))
        at = read_claim(lines, store, claim)
        claims.append(claim)
    return store, claims


def name_in(line, claims):
    """The name in a line that may stand behind these claims, or an empty string if the line is none."""
    words = line.split(" ")
    if len(words) != 2 or words[0] != "claim" or not is_name(words[1]) or len(claims) == MOST_CLAIMS:
        return ""
    return words[1] if claims == [] or claims[-1].name < words[1] else ""


def read_claim(lines, store, claim):
    """Reads the lines of a claim; returns the number of the first line that does not belong to it."""
    if claim.name == "":
        raise InvalidText(claim.line)
    claim.question = question_at(lines, claim.line + 1, store)
    claim.inputs = numbers_at(lines, claim.line + 2, "inputs")
    if not is_row(claim.inputs, len(claim.question.names), store.size):
        raise InvalidText(claim.line + 2)
    claim.marks = numbers_at(lines, claim.line + 3, "marks")
    at = claim.line + 4
    looks = []
    while at < len(lines) and lines[at].split(" ")[0] in ANSWERS:
        look = look_in(lines[at].split(" "), store)
        if look == () or looks != [] and looks[-1][:2] >= look[:2]:
            raise InvalidText(at)
        looks.append(look)
        at += 1
    claim.looks = tuple(looks)
    return at


def line_at(lines, at):
    """The line with this number; raises InvalidText if the lines are over."""
    if at >= len(lines):
        raise InvalidText(len(lines))
    return lines[at]


def question_at(lines, at, store):
    """The question in a line, which must fit the store."""
    line = line_at(lines, at)
    try:
        question = Question.read(line)
        check_fits(store, question.tables())
    except (InvalidText, Unfit):
        raise InvalidText(at) from None
    return question


def numbers_at(lines, at, first):
    """The numbers behind the first word of a line."""
    words = line_at(lines, at).split(" ")
    numbers = tuple([number_in(word) for word in words[1:]])
    if words[0] != first or not all([number >= 0 for number in numbers]):
        raise InvalidText(at)
    return numbers


def look_in(words, store):
    """The look that these words tell, or an empty tuple if the store has no such table or row."""
    if len(words) < 2 or words[1] not in store.tables():
        return ()
    row = row_in(words[1:])
    return (words[1], row, ANSWERS[words[0]]) if is_row(row, store.places(words[1]), store.size) else ()
