"""[17] and the interface of shelves.py, without the pages."""

import random
import unittest

from helper import ODD_VALUES, mutants, raised, told
from oncethrough.papers import is_paper, looks_of
from oncethrough.questions import Question
from oncethrough.shelves import Claim, Shelf
from oncethrough.stores import Store
from oncethrough.weights import Weigher
from samples import made

FAR = "a b : not way x y link road x y a b"
NEAR = "a b : link road a b"
FIRST = made(3, [2], [(0, 1)])
FAR_MARKS = (1, 0, 1, 1, 1, 0, 0, 0, 1, 0, 1, 1, 1, 0, 0, 0, 1, 1, 0, 0, 1, 1, 0)
FAR_LOOKS = (("road", (0, 1), True), ("road", (0, 2), False), ("road", (1, 2), False))
CLAIM_FAR = ("claim", "far", FAR, (0, 2), FAR_MARKS)
CLAIM_NEAR = ("claim", "near", NEAR, (0, 1), ())
NAMES = ["a", "b", "c", "d", "e", "f", "g", "h", "i", "j", "k", "l"]


def shelf_with(*commands):
    shelf = Shelf(FIRST)
    shelf.do(*commands)
    return shelf


def told_of(shelf):
    """All that a shelf tells of itself, beside its history."""
    claims = {name: vars(shelf.claim(name)) for name in shelf.claimed()}
    return shelf.store, {name: (claim["question"].text(), claim["inputs"], claim["marks"], claim["looks"])
                         for name, claim in claims.items()}


def history_of(shelf):
    """What is told behind each undo and redo that can be done."""
    twin = shelf.twin()
    found = []
    while raised_code(twin.undo) is None:
        found.append(told_of(twin))
    twin = shelf.twin()
    while raised_code(twin.redo) is None:
        found.append(told_of(twin))
    return found


def raised_code(call):
    try:
        call()
    except (ValueError, LookupError) as error:
        return error.code
    return None


class Claims(unittest.TestCase):
    def test_claim(self):
        question = Question.read(NEAR)
        claim = Claim(question, (0, 1), (), FAR_LOOKS)
        self.assertEqual(vars(claim), {"question": question, "inputs": (0, 1), "marks": (), "looks": FAR_LOOKS})
        inputs, marks, looks = [0, 1], [1], list(FAR_LOOKS)
        claim = Claim(looks=looks, marks=marks, inputs=inputs, question=question)
        for items in (inputs, marks, looks):
            items.append(9)
        self.assertEqual((claim.inputs, claim.marks, claim.looks), ((0, 1), (1,), FAR_LOOKS))

    def test_the_claims_of_a_shelf(self):
        shelf = shelf_with(CLAIM_FAR)
        claim = shelf.claim("far")
        self.assertIsInstance(claim, Claim)
        self.assertEqual(claim.question, Question.read(FAR))
        self.assertEqual((claim.inputs, claim.marks, claim.looks), ((0, 2), FAR_MARKS, FAR_LOOKS))
        for items in (claim.inputs, claim.marks, claim.looks):
            self.assertIs(type(items), tuple)


class Commands(unittest.TestCase):
    def test_put_and_drop(self):
        shelf = Shelf(FIRST)
        self.assertEqual(shelf.do(("put", "road", 1, 2)), [])
        self.assertEqual(shelf.store, FIRST.put("road", 1, 2))
        shelf.do(("drop", "road", 0, 1), ("put", "red", 0))
        self.assertEqual(shelf.store, made(3, [0, 2], [(1, 2)]))
        shelf.do(("put", "red", 0))
        self.assertEqual(shelf.store, made(3, [0, 2], [(1, 2)]))
        self.assertEqual(FIRST, made(3, [2], [(0, 1)]))

    def test_claims(self):
        shelf = Shelf(FIRST)
        self.assertEqual((shelf.claimed(), shelf.doubtful(), len(shelf)), ([], [], 0))
        self.assertEqual(shelf.do(CLAIM_NEAR, CLAIM_FAR), [])
        self.assertEqual((shelf.claimed(), shelf.doubtful(), len(shelf)), (["far", "near"], [], 2))
        self.assertEqual(shelf.do(("put", "road", 1, 2)), ["far"])
        self.assertEqual((shelf.stands("far"), shelf.stands("near")), (False, True))
        self.assertEqual(shelf.do(("drop", "road", 0, 1)), ["far", "near"])
        self.assertEqual(shelf.doubtful(), ["far", "near"])
        self.assertEqual(shelf.do(("drop", "road", 1, 2), ("put", "road", 0, 1), ("put", "red", 0)), [])
        self.assertIs(shelf.stands("far"), True)
        shelf.do(("forget", "far"))
        self.assertEqual((shelf.claimed(), len(shelf)), (["near"], 1))
        for found in (shelf.claimed(), shelf.doubtful(), shelf.do()):
            self.assertIs(type(found), list)
        shelf.claimed().append("x")
        self.assertEqual(shelf.claimed(), ["near"])

    def test_a_claim_that_looks_at_nothing(self):
        shelf = shelf_with(("claim", "a", ": all x same x x", (), ()))
        self.assertEqual(shelf.claim("a").looks, ())
        shelf.do(("put", "red", 0), ("put", "road", 2, 2))
        self.assertIs(shelf.stands("a"), True)

    def test_again(self):
        text = "a : or has red a not all x has red x"
        shelf = shelf_with(("claim", "one", text, (0,), (1, 0)), ("claim", "two", ": not all x has red x", (), (0,)))
        self.assertEqual(shelf.claim("one").looks, (("red", (0,), False),))
        shelf.do(("again", "one"), ("again", "two"))
        self.assertEqual(shelf.claim("one").looks, (("red", (0,), False),))
        self.assertEqual(shelf.do(("put", "red", 0)), ["one", "two"])
        for name in ("one", "two"):
            self.assertEqual(told(raised(shelf.do, ("again", name))), ("NotAccepted", {"name": name}))
        self.assertEqual(shelf.doubtful(), ["one", "two"])
        shelf.do(("drop", "red", 0), ("again", "one"))
        self.assertEqual(shelf.doubtful(), [])

    def test_again_where_the_paper_is_none_any_more(self):
        text = "a : count x rest 2 1 or has red x link road a x"
        store = made(2, [0], [])
        marks = tuple(Weigher(store, Question.read(text)).first(0))
        self.assertEqual(marks, (1, 0, 0))
        shelf = Shelf(store)
        shelf.do(("claim", "odd", text, (0,), marks))
        kept = shelf.claim("odd").looks
        self.assertEqual(kept, (("red", (0,), True), ("red", (1,), False), ("road", (0, 1), False)))
        self.assertEqual(shelf.do(("put", "red", 1)), ["odd"])
        self.assertEqual(told(raised(shelf.do, ("again", "odd"))), ("NotAccepted", {"name": "odd"}))
        self.assertEqual(shelf.claim("odd").looks, kept)

    def test_the_looks_of_each_side(self):
        question = Question.read("a b : not and link road a b not link road a b")
        shelf = Shelf(made(2, [], []))
        shelf.do(("claim", "x", question.text(), (0, 1), (0,)))
        self.assertEqual(shelf.claim("x").looks, (("road", (0, 1), False),))
        self.assertEqual(shelf.do(("put", "road", 0, 1)), ["x"])
        self.assertEqual(told(raised(shelf.do, ("again", "x")))[0], "NotAccepted")
        shelf.do(("forget", "x"), ("claim", "x", question.text(), (0, 1), (1,)))
        self.assertEqual(shelf.claim("x").looks, (("road", (0, 1), True),))

    def test_commands_see_what_the_ones_ahead_did(self):
        shelf = Shelf(FIRST)
        shelf.do(("put", "road", 1, 2), ("claim", "a", NEAR, (1, 2), ()), ("drop", "road", 1, 2), ("put", "road", 1, 2),
                 ("again", "a"), ("forget", "a"), ("claim", "a", NEAR, (0, 1), ()))
        self.assertEqual(shelf.claim("a").inputs, (0, 1))

    def test_names_of_every_kind(self):
        shelf = shelf_with(CLAIM_FAR)
        for value in (*ODD_VALUES, 0, "near", "Far", "fa", "far ", "a", ("far",), ["far"], 10 ** 14):
            self.assertIs(value in shelf, False)
            for call in (shelf.claim, shelf.stands):
                error = raised(call, value)
                self.assertEqual(told(error), ("UnknownName", {"name": value}))
                self.assertIs(type(error.name), type(value))
        self.assertIs("far" in shelf, True)
        self.assertEqual(shelf.claim(name="far").marks, FAR_MARKS)
        self.assertIs(shelf.stands(name="far"), True)


class WrongCommands(unittest.TestCase):
    def check(self, command, code, **attributes):
        """The command is wrong alone, and with its index behind and ahead of right ones."""
        shelf = shelf_with(CLAIM_FAR)
        shelf.do(("put", "red", 1))
        shelf.undo()
        kept, history = told_of(shelf), history_of(shelf)
        for ahead in ((), (("put", "red", 0),), (("put", "road", 2, 2), ("drop", "red", 2))):
            for behind in ((), (("put", "red", 1),), (None,)):
                error = raised(shelf.do, *ahead, command, *behind)
                wanted = {"at": len(ahead)} if code == "InvalidCommand" else attributes
                self.assertEqual(told(error), (code, wanted), command)
                self.assertEqual(told_of(shelf), kept)
                self.assertEqual(history_of(shelf), history)

    def test_what_is_no_command(self):
        for value in (*ODD_VALUES, ("put",), ("drop",), ("claim",), ("again",), ("forget",), ("undo",), ("take", "far"), "put",
                      ["put", "road", 1, 2], ("again", "far", "far"), ("forget", "far", 1), ("Put", "red", 0), (0, "red", 0),
                      (True, "red", 0), (None,), ((), 1), (["put"], "red", 0), (("put", "red", 0),), ("claim", "far"),
                      CLAIM_NEAR[:4], (*CLAIM_NEAR, ()), list(CLAIM_NEAR)):
            self.check(value, "InvalidCommand")

    def test_items_of_a_claim(self):
        for text in (None, 3, True, ("a",), [NEAR], ()):
            self.check(("claim", "near", text, (0, 1), ()), "InvalidCommand")
        for inputs in (None, 0, "01", [0, 1], True):
            self.check(("claim", "near", NEAR, inputs, ()), "InvalidCommand")
        for marks in (None, 0, "", [], [0], (True,), (0, None), ("0",), ((0,),), (0, [1]), (0, False)):
            self.check(("claim", "near", NEAR, (0, 1), marks), "InvalidCommand")
            # The form comes ahead of what is wrong with the items.
            self.check(("claim", "FAR", "no text", (9,), marks), "InvalidCommand")

    def test_tables_and_things(self):
        for word in ("put", "drop"):
            for name in (*ODD_VALUES, 0, "sea", "Red", ("red",), ["red"]):
                self.check((word, name), "UnknownTable", name=name)
                self.check((word, name, None, 7), "UnknownTable", name=name)
            for things in ((), (0,), (0, 1, 2), (0, 3), (-1, 0), (True, 0), (0, None), ("0", "1"), ((0, 1),), ([0], 1)):
                self.check((word, "road", *things), "InvalidThings", given=things)
            for things in ((), (3,), (0, 1), (True,)):
                self.check((word, "red", *things), "InvalidThings", given=things)

    def test_names_of_claims(self):
        for name in (*ODD_VALUES, 0, "Near", "abcdefg", "a b", ("near",), ["near"], 10 ** 14):
            self.check(("claim", name, NEAR, (0, 1), ()), "InvalidName", given=name)
            # It comes ahead of a wrong text.
            self.check(("claim", name, "no text", (9,), (7,)), "InvalidName", given=name)
            for word in ("again", "forget"):
                self.check((word, name), "UnknownName", name=name)
        self.check(("claim", "far", NEAR, (0, 1), ()), "DuplicateName", name="far")
        self.check(("claim", "far", "no text", (9,), (7,)), "DuplicateName", name="far")
        for word in ("again", "forget"):
            self.check((word, "near"), "UnknownName", name="near")

    def test_texts_inputs_and_marks(self):
        for text in ("", "a", "link road a b", "a b: link road a b", "a b : link road a", NEAR + " ", "a b : not", "A : has red A"):
            self.check(("claim", "near", text, (9,), (7,)), "InvalidText", line=0)
        for text, name in (("a b : link sea a b", "sea"), ("a : has road a", "road"), ("a : and has red a has blue a", "blue"),
                           ("a b : link red a b", "red")):
            self.check(("claim", "near", text, (9,), (7,)), "Unfit", name=name)
        for inputs in ((), (0,), (0, 1, 2), (0, 3), (True, 1), (None, 1), ("0", "1"), ((0,), 1), ([0], 1)):
            self.check(("claim", "near", NEAR, inputs, (7,)), "InvalidInputs", given=inputs)
        for marks in ((0,), (-1,), (10 ** 14,), (0, 0)):
            self.check(("claim", "near", NEAR, (0, 1), marks), "NotAccepted", name="near")
        self.check(("claim", "near", NEAR, (1, 0), ()), "NotAccepted", name="near")
        for marks in mutants(list(FAR_MARKS), 2):
            if tuple(marks) != FAR_MARKS and len(marks) == 23 and marks[0] == 0:
                self.check(("claim", "near", FAR, (0, 2), tuple(marks)), "NotAccepted", name="near")

    def test_again_of_a_claim_that_is_doubtful(self):
        shelf = shelf_with(CLAIM_FAR, ("put", "road", 1, 2))
        kept = told_of(shelf)
        self.assertEqual(told(raised(shelf.do, ("again", "far"))), ("NotAccepted", {"name": "far"}))
        self.assertEqual(told_of(shelf), kept)
        # It stands again where the store gives the same answers, without being read.
        self.assertEqual(shelf.do(("drop", "road", 1, 2)), [])

    def test_12_and_13_claims(self):
        commands = [("claim", name, NEAR, (0, 1), ()) for name in NAMES]
        shelf = Shelf(FIRST)
        shelf.do(*commands)
        self.assertEqual((len(shelf), shelf.claimed()), (12, NAMES))
        for command in (("claim", "m", NEAR, (0, 1), ()), ("claim", "m", "no text", (9,), (7,))):
            self.assertEqual(told(raised(shelf.do, command)), ("Full", {"most": 12}))
        self.assertEqual(told(raised(shelf.do, ("claim", "a", NEAR, (0, 1), ()))), ("DuplicateName", {"name": "a"}))
        self.assertEqual(told(raised(shelf.do, ("claim", "A", NEAR, (0, 1), ()))), ("InvalidName", {"given": "A"}))
        shelf.do(("forget", "c"), ("claim", "m", NEAR, (0, 1), ()))
        self.assertEqual(shelf.claimed(), [*NAMES[:2], *NAMES[3:], "m"])
        self.assertEqual(told(raised(Shelf(FIRST).do, *commands, ("claim", "m", NEAR, (0, 1), ()))), ("Full", {"most": 12}))
        shelf = Shelf(FIRST)
        for command in commands:
            shelf.do(command)
        self.assertEqual(len(shelf), 12)

    def test_given_values_are_copied(self):
        things = [0]
        error = raised(Shelf(FIRST).do, ("put", "red", things))
        things.append(1)
        self.assertEqual(error.given, ([0],))

    def test_the_first_wrong_command_counts(self):
        shelf = Shelf(FIRST)
        error = raised(shelf.do, ("put", "red", 0), ("put", "sea", 0), None)
        self.assertEqual(told(error), ("UnknownTable", {"name": "sea"}))
        error = raised(shelf.do, ("put", "red", 0), None, ("put", "sea", 0))
        self.assertEqual(told(error), ("InvalidCommand", {"at": 1}))


class History(unittest.TestCase):
    def test_undo_and_redo(self):
        shelf = Shelf(FIRST)
        found = [told_of(shelf)]
        for commands in ((CLAIM_FAR,), (("put", "road", 1, 2), CLAIM_NEAR), (("again", "near"),), (("forget", "far"),),
                         (("drop", "road", 0, 1),), (("put", "red", 2),)):
            shelf.do(*commands)
            found.append(told_of(shelf))
        for at in range(len(found) - 2, -1, -1):
            self.assertIsNone(shelf.undo())
            self.assertEqual(told_of(shelf), found[at])
        self.assertEqual(told(raised(shelf.undo)), ("NothingLeft", {}))
        for at in range(1, len(found)):
            self.assertIsNone(shelf.redo())
            self.assertEqual(told_of(shelf), found[at])
        self.assertEqual(told(raised(shelf.redo)), ("NothingLeft", {}))
        self.assertEqual(told_of(shelf), found[-1])

    def test_nothing_left(self):
        shelf = Shelf(FIRST)
        for call in (shelf.undo, shelf.redo):
            self.assertRaises(IndexError, call)
            self.assertEqual(told(raised(call)), ("NothingLeft", {}))

    def test_a_new_call_clears_what_could_be_redone(self):
        shelf = shelf_with(CLAIM_FAR)
        shelf.do(("put", "red", 0))
        shelf.undo()
        shelf.do(("put", "red", 1))
        self.assertEqual(told(raised(shelf.redo)), ("NothingLeft", {}))
        shelf.undo()
        self.assertEqual(told_of(shelf), told_of(shelf_with(CLAIM_FAR)))
        shelf.redo()
        self.assertEqual(shelf.store, FIRST.put("red", 1))

    def test_a_call_without_commands_or_with_a_wrong_one_changes_nothing(self):
        shelf = shelf_with(CLAIM_FAR)
        shelf.do(("put", "road", 1, 2))
        shelf.do(("put", "red", 0))
        shelf.undo()
        kept = history_of(shelf)
        self.assertEqual(shelf.do(), ["far"])
        self.assertEqual(history_of(shelf), kept)
        for command in (None, ("put", "sea"), ("again", "far"), ("forget", "x"), CLAIM_FAR):
            raised(shelf.do, ("put", "red", 1), command)
            self.assertEqual(history_of(shelf), kept)
        shelf.redo()
        self.assertEqual(shelf.store.rows_of("red"), [(0,), (2,)])

    def test_a_call_that_changes_nothing_else_is_an_entry_too(self):
        shelf = shelf_with(CLAIM_FAR)
        shelf.do(("put", "red", 2))
        shelf.do(("again", "far"))
        shelf.undo()
        shelf.undo()
        self.assertIn("far", shelf)
        shelf.undo()
        self.assertNotIn("far", shelf)

    def test_one_call_is_one_entry(self):
        shelf = Shelf(FIRST)
        shelf.do(CLAIM_FAR, CLAIM_NEAR, ("put", "red", 0))
        shelf.undo()
        self.assertEqual(told_of(shelf), told_of(Shelf(FIRST)))

    def test_drawn(self):
        draw = random.Random(61)
        for _ in range(30):
            shelf, states, at = Shelf(FIRST), [told_of(Shelf(FIRST))], 0
            for _ in range(40):
                word = draw.choice(("do", "do", "undo", "redo", "none", "wrong"))
                if word == "do":
                    shelf.do(("put" if draw.random() < 0.5 else "drop", "road", draw.randrange(3), draw.randrange(3)))
                    states[at + 1:] = [told_of(shelf)]
                    at += 1
                elif word == "undo" and at > 0:
                    shelf.undo()
                    at -= 1
                elif word == "redo" and at < len(states) - 1:
                    shelf.redo()
                    at += 1
                elif word == "none":
                    shelf.do()
                else:
                    raised(shelf.do, ("put", "red", 0), ("put", "sea"))
                self.assertEqual(told_of(shelf), states[at])
                self.assertIs(raised_code(shelf.twin().undo) is None, at > 0)
                self.assertIs(raised_code(shelf.twin().redo) is None, at < len(states) - 1)


class Twins(unittest.TestCase):
    def test_twins_led_on_apart(self):
        shelf = shelf_with(CLAIM_FAR)
        shelf.do(("put", "red", 0))
        shelf.do(("put", "red", 1))
        shelf.undo()
        twin = shelf.twin()
        self.assertIs(type(twin), Shelf)
        self.assertEqual(told_of(twin), told_of(shelf))
        self.assertEqual(history_of(twin), history_of(shelf))
        kept, history = told_of(shelf), history_of(shelf)
        twin.do(("forget", "far"), CLAIM_NEAR, ("drop", "red", 2))
        self.assertEqual((told_of(shelf), history_of(shelf)), (kept, history))
        gone, history = told_of(twin), history_of(twin)
        shelf.undo()
        shelf.undo()
        shelf.do(("put", "road", 2, 0))
        self.assertEqual((told_of(twin), history_of(twin)), (gone, history))
        self.assertEqual(told(raised(twin.redo)), ("NothingLeft", {}))
        other = twin.twin()
        other.undo()
        self.assertEqual(told_of(other), kept)
        self.assertEqual(told_of(twin), gone)


class Equal(unittest.TestCase):
    def test_equal(self):
        one, other = shelf_with(CLAIM_FAR, CLAIM_NEAR), shelf_with(CLAIM_NEAR, CLAIM_FAR)
        self.assertTrue(one == other)
        self.assertFalse(one != other)
        # The history does not count.
        other.do(("put", "red", 0))
        other.do(("drop", "red", 0))
        self.assertTrue(one == other)
        self.assertTrue(one == one.twin())

    def test_unequal(self):
        shelf = shelf_with(CLAIM_FAR)
        for commands in ((), (CLAIM_NEAR,), (CLAIM_FAR, CLAIM_NEAR), (("claim", "fur", *CLAIM_FAR[2:]),),
                         (CLAIM_FAR, ("put", "red", 0)), (("claim", "far", "a : not has red a", (0,), ()),),
                         (("claim", "far", NEAR, (0, 1), ()),)):
            other = shelf_with(*commands)
            self.assertFalse(shelf == other)
            self.assertTrue(shelf != other)
        for value in (*ODD_VALUES, FIRST, shelf.page(), [shelf], (shelf,), {}, {"far": 1}, object()):
            self.assertFalse(shelf == value)
            self.assertTrue(shelf != value)

    def test_each_part_of_a_claim_counts(self):
        text = "a : or has red a not has red a"
        one = Shelf(made(2, [0, 1], []))
        one.do(("claim", "x", text, (0,), (0,)))
        for claim, red in ((("claim", "x", text, (1,), (0,)), [0, 1]), (("claim", "x", text + " ", (0,), (0,)), [0, 1]),
                           (("claim", "x", "b : or has red b not has red b", (0,), (0,)), [0, 1]),
                           (("claim", "x", "a : or has red a has red a", (0,), (0,)), [0, 1]),
                           (("claim", "x", "a : or has red a has red a", (0,), (1,)), [0, 1])):
            other = Shelf(made(2, red, []))
            if claim[2].endswith(" "):
                raised(other.do, claim)
            else:
                other.do(claim)
            self.assertFalse(one == other, claim)
        one, other = Shelf(made(2, [0], [])), Shelf(made(2, [0], []))
        one.do(("claim", "x", "a : or has red a has red a", (0,), (0,)))
        other.do(("claim", "x", "a : or has red a has red a", (0,), (1,)))
        self.assertFalse(one == other)

    def test_looks_count(self):
        # The mark 0 or 1 is the same, but the looks are those of the store in which the paper was read.
        text = "a : count x least 0 has red x"
        one, other = Shelf(made(1, [], [])), Shelf(made(1, [], []))
        one.do(("claim", "x", text, (0,), (0,)))
        other.do(("put", "red", 0), ("claim", "x", text, (0,), (1,)), ("drop", "red", 0))
        self.assertFalse(one == other)


class Standing(unittest.TestCase):
    def test_a_claim_stands_just_where_its_looks_are_so(self):
        draw = random.Random(62)
        texts = (FAR, NEAR, "a b : way x y link road x y a b", "a : count x rest 2 1 link road a x", "a : not has red a",
                 "a : some x link road x a", "a : not all x has red x")
        for _ in range(60):
            store = made(3, [thing for thing in range(3) if draw.random() < 0.5],
                         [(one, two) for one in range(3) for two in range(3) if draw.random() < 0.4])
            shelf = Shelf(store)
            for name, text in zip(NAMES, texts):
                question = Question.read(text)
                inputs = tuple(draw.randrange(3) for _ in question.names)
                weigher = Weigher(store, question)
                if weigher.least(*inputs) is not None:
                    shelf.do(("claim", name, text, inputs, tuple(weigher.first(*inputs))))
            for _ in range(10):
                word, row = draw.choice(("put", "drop")), [draw.randrange(3) for _ in range(draw.choice((1, 2)))]
                names = shelf.do((word, "red" if len(row) == 1 else "road", *row))
                self.check_standing(shelf, names)

    def check_standing(self, shelf, names):
        self.assertEqual(names, shelf.doubtful())
        for name in shelf.claimed():
            claim = shelf.claim(name)
            same = all(shelf.store.holds(table, *row) is answer for table, row, answer in claim.looks)
            self.assertIs(shelf.stands(name), same)
            self.assertIs(name in names, not same)
            if same:
                self.assertIs(is_paper(shelf.store, claim.question, claim.inputs, claim.marks), True)
                self.assertEqual(tuple(looks_of(shelf.store, claim.question, claim.inputs, claim.marks)), claim.looks)
            else:
                self.assertIs(is_paper(shelf.store, claim.question, claim.inputs, claim.marks),
                              raised_code(lambda name=name: shelf.twin().do(("again", name))) is None)

    def test_by_name(self):
        shelf = Shelf(store=FIRST)
        self.assertEqual(shelf.store, FIRST)
        self.assertEqual(len(Shelf(store=FIRST)), 0)


if __name__ == "__main__":
    unittest.main()
