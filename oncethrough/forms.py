"""Forms and aims: the sayings of a question over the things in their scope, and what is to be shown of them."""

from oncethrough.sayings import SHAPES

LOOKS = ("has", "link")
WAYS = ("way", "within")

# The side on which a paper begins with the mark of the one part that it shows; on the other side it shows all parts.
CHOOSING = {"and": False, "or": True, "some": True, "all": False}


def item_of(items, wanted):
    """The first item of this kind, or None."""
    found = [item for item, kind in items if kind == wanted]
    return found[0] if found else None


class Form:
    """A saying whose names are spots in the scope: the tuple of the things that are given and bound around it."""

    def __init__(self, saying, names):
        items = list(zip(saying[1:], SHAPES[saying[0]]))
        inner = (*names, *[item for item, kind in items if kind == "new"])
        self.word = saying[0]
        self.table = item_of(items, "table")
        self.test = item_of(items, "test")
        # A way has None here: it may take any number of steps.
        self.most = item_of(items, "steps")
        self.spots = tuple([names.index(item) for item, kind in items if kind == "name"])
        self.parts = [Form(item, inner) for item, kind in items if kind == "saying"]
        used = [spot for part in self.parts for spot in part.free if spot < len(names)]
        # All that the meaning hangs on, so that what is found for a form need be found once only for these things.
        self.free = tuple(sorted(set([*used, *self.spots])))


class Aim:
    """What a paper is to show: that a form holds (yes), or that it does not, with these things in scope."""

    def __init__(self, form, scope, yes):
        self.form = form
        self.scope = scope
        self.yes = yes

    def key(self):
        """What all papers of the aim hang on."""
        return (self.form, self.yes, *[self.scope[spot] for spot in self.form.free])

    def steps_key(self):
        """What the steps of a way or within hang on; where it begins and ends is not in it."""
        step = self.form.parts[0]
        return (step, *[self.scope[spot] for spot in step.free if spot < len(self.scope)])

    def things(self):
        """The things of the names that the form itself has, as a row."""
        return tuple([self.scope[spot] for spot in self.form.spots])

    def inner(self, at, bound, yes):
        """The aim of the part at this index, with these things bound in it."""
        return Aim(self.form.parts[at], self.scope + bound, yes)

    def step(self, start, end, yes):
        """That a step of a way or within leads from start to end, or that none does."""
        return self.inner(0, (start, end), yes)


def chooses(aim):
    """True if a paper of the aim shows one part, whose mark stands ahead."""
    return CHOOSING.get(aim.form.word) == aim.yes


def parts_of(aim, size):
    """The aims within not, and, or, some and all, in order; none for other forms without a saying in them."""
    if aim.form.word in ("some", "all"):
        return [aim.inner(0, (thing,), aim.yes) for thing in range(size)]
    yes = aim.yes != (aim.form.word == "not")
    return [aim.inner(at, (), yes) for at in range(len(aim.form.parts))]
