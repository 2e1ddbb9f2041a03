"""Shelves: a store with claims whose papers were accepted, and which may have become doubtful since."""

from oncethrough.claim_pages import MOST_CLAIMS, lines_of, store_and_claims
from oncethrough.commands import is_command
from oncethrough.errors import DuplicateName, Full, InvalidCommand, InvalidName, InvalidText, NoPaper
from oncethrough.errors import NotAccepted, NothingLeft, UnknownName
from oncethrough.papers import looks_of
from oncethrough.questions import Question
from oncethrough.stores import Store
from oncethrough.words import is_name


class Claim:
    """A question, inputs, a paper of it, and the looks of that. A claim never changes."""

    def __init__(self, question, inputs, marks, looks):
        self.question = question
        self.inputs = tuple(inputs)
        self.marks = tuple(marks)
        self.looks = tuple(looks)


class Shelf:
    """A store and claims by name, with a history."""

    def __init__(self, store):
        self.store = store
        # Another dict takes its place where a claim changes: this one may stand in the history, and in that of twins.
        self._claims = {}
        self._past = []
        self._future = []

    def do(self, *commands):
        """Does the commands in order, or none of them; returns the names of the doubtful claims behind them."""
        store, claims = self.store, self._claims
        for at, command in enumerate(commands):
            if not is_command(command):
                raise InvalidCommand(at)
            store, claims = behind_command(store, claims, command)
        if commands != ():
            self._past.append((self.store, self._claims))
            self._future = []
            self.store, self._claims = store, claims
        return self.doubtful()

    def undo(self):
        """Goes back behind the call ahead."""
        if self._past == []:
            raise NothingLeft()
        self._future.append((self.store, self._claims))
        self.store, self._claims = self._past.pop()

    def redo(self):
        """Goes on again behind the call that was undone."""
        if self._future == []:
            raise NothingLeft()
        self._past.append((self.store, self._claims))
        self.store, self._claims = self._future.pop()

    def claimed(self):
        """The names of the claims, ascending."""
        return sorted(self._claims)

    def doubtful(self):
        """The names of the doubtful claims, ascending."""
        return [name for name in self.claimed() if not self.stands(name)]

    def claim(self, name):
        """The claim of this name."""
        return claim_named(self._claims, name)

    def stands(self, name):
        """True if the present store gives the same answers to all looks of the claim."""
        looks = self.claim(name).looks
        return all([self.store.holds(table, *row) == answer for table, row, answer in looks])

    def twin(self):
        """A shelf with the same store, claims and history."""
        other = Shelf(self.store)
        other._claims = self._claims
        other._past = list(self._past)
        other._future = list(self._future)
        return other

    def page(self):
        """The page of the shelf."""
        lines = [line for name in self.claimed() for line in lines_of(name, self._claims[name])]
        return "\n".join([self.store.page(), *lines])

    @staticmethod
    def read(text):
        """The shelf of a page."""
        store, told = store_and_claims(text)
        shelf = Shelf(store)
        shelf._claims = {lines.name: claim_of(lines, store) for lines in told}
        return shelf

    def __contains__(self, name):
        return is_name(name) and name in self._claims

    def __len__(self):
        return len(self._claims)

    def __eq__(self, other):
        return (isinstance(other, Shelf) and self.store == other.store
                and told_of(self._claims) == told_of(other._claims))


def told_of(claims):
    """For each name all that tells its claim from another one."""
    return {name: (claims[name].question.names, claims[name].question.saying, claims[name].inputs, claims[name].marks,
                   claims[name].looks) for name in claims}


def claim_named(claims, name):
    """The claim of this name, any value."""
    if not is_name(name) or name not in claims:
        raise UnknownName(name)
    return claims[name]


def behind_command(store, claims, command):
    """The store and the claims behind a command; neither is changed."""
    word = command[0]
    items = command[1:]
    if word == "put":
        return store.put(*items), claims
    if word == "drop":
        return store.drop(*items), claims
    if word == "claim":
        check_new(claims, command[1])
        question = Question.read(command[2])
        return store, {**claims, command[1]: read_again(store, command[1], Claim(question, command[3], command[4], ()))}
    claim = claim_named(claims, command[1])
    if word == "again":
        return store, {**claims, command[1]: read_again(store, command[1], claim)}
    return store, {name: claims[name] for name in claims if name != command[1]}


def check_new(claims, name):
    """Raises the errors of the name of a new claim."""
    if not is_name(name):
        raise InvalidName(name)
    if name in claims:
        raise DuplicateName(name)
    if len(claims) == MOST_CLAIMS:
        raise Full(MOST_CLAIMS)


def read_again(store, name, claim):
    """The claim with the looks that its paper has in this store."""
    try:
        looks = looks_of(store, claim.question, claim.inputs, claim.marks)
    except NoPaper:
        raise NotAccepted(name) from None
    return Claim(claim.question, claim.inputs, claim.marks, looks)


def claim_of(lines, store):
    """The claim of these lines of a page; raises InvalidText unless its looks are those of its paper.

    The paper is read in the store of those rows alone that the looks tell of.
    """
    rows = [(table, row) for table, row, answer in lines.looks if answer]
    tables = {name: (store.places(name), [row for table, row in rows if table == name]) for name in store.tables()}
    try:
        claim = read_again(Store(store.size, tables), lines.name, lines)
    except NotAccepted:
        raise InvalidText(lines.line) from None
    if claim.looks != lines.looks:
        raise InvalidText(lines.line)
    return claim
