"""[19] and the interface of desk.py."""

import random
import unittest

from helper import raised
from oncethrough.desk import Desk, claims_table
from oncethrough.questions import Question
from oncethrough.shelves import Shelf
from oncethrough.stores import Store
from oncethrough.weights import Weigher
from samples import made
from test_shelves import FIRST, NAMES, history_of, told_of
from test_weights import LONG, LONG_STORE

FAR = "a b : not way x y link road x y a b"


def desk_with(*lines):
    desk = Desk(Shelf(FIRST))
    for line in lines:
        desk.answer(line)
    return desk


class Lines(unittest.TestCase):
    def check(self, desk, *pairs):
        for line, answer in pairs:
            self.assertEqual(desk.answer(line), answer, line)

    def test_a_day_at_the_desk(self):
        desk = Desk(Shelf(FIRST))
        self.check(
            desk, ("states", "nothing"), ("ask 0 1 : a b : way x y link road x y a b", "yes 3"),
            ("ask 0 2 : a b : way x y link road x y a b", "no 23"), (f"claim far 0 2 : {FAR}", "claimed 23"),
            ("claim near 0 1 : a b : link road a b", "claimed 0"), ("states", "far stands near stands"),
            ("put road 1 2", "doubtful far"), ("states", "far doubtful near stands"), ("again far", "error NotAccepted"),
            ("again near", "ok"), ("drop road 0 1", "doubtful far near"), ("undo", "ok"), ("undo", "ok"), ("undo", "ok"),
            ("states", "far stands near stands"), ("redo", "ok"), ("states", "far doubtful near stands"),
            ("forget far", "ok"), ("put red 0", "all stand"), ("states", "near stands"), ("redo", "error NothingLeft"),
            ("forget near", "ok"), ("states", "nothing"), ("drop red 0", "all stand"))

    def test_it_works_on_this_shelf_itself(self):
        shelf = Shelf(FIRST)
        desk = Desk(shelf=shelf)
        self.assertIs(desk.shelf, shelf)
        desk.answer("put red 1")
        self.assertEqual(shelf.store, FIRST.put("red", 1))
        shelf.do(("claim", "a", "a : has red a", (1,), ()))
        self.assertEqual(desk.answer("states"), "a stands")
        shelf.do(("drop", "red", 1))
        self.assertEqual(desk.answer(line="states"), "a doubtful")
        self.assertEqual(desk.answer("undo"), "ok")
        self.assertEqual(shelf.doubtful(), [])
        shelf.undo()
        self.assertEqual(desk.answer("states"), "nothing")
        self.assertEqual(desk.answer("redo"), "ok")
        self.assertIn("a", shelf)

    def test_put_and_drop(self):
        desk = desk_with("claim a 2 : a : has red a", "claim b 0 1 : a b : link road a b")
        self.check(desk, ("put red 0", "all stand"), ("drop red 2", "doubtful a"), ("drop road 0 1", "doubtful a b"),
                   ("put red 2", "doubtful b"), ("put road 0 1", "all stand"))
        for word in ("put", "drop"):
            self.check(desk, (f"{word} sea 0 1", "error UnknownTable"), (f"{word} Red 0", "error UnknownTable"),
                       (f"{word} 7 0", "error UnknownTable"), (f"{word} sea", "error UnknownTable"),
                       (f"{word} road", "error InvalidThings"), (f"{word} road 0", "error InvalidThings"),
                       (f"{word} road 0 1 2", "error InvalidThings"), (f"{word} road 0 3", "error InvalidThings"),
                       (f"{word} red 999999999999999", "error InvalidThings"), (f"{word}", "what"), (f"{word} red x", "what"),
                       (f"{word} red 01", "what"), (f"{word} red -1", "what"), (f"{word} red +1", "what"),
                       (f"{word} sea x", "what"), (f"{word} red 0 :", "what"), (f"{word} red : 0", "what"),
                       (f"{word.upper()} red 0", "what"), (f"{word}red 0", "what"))

    def test_ask(self):
        desk = desk_with("put red 0")
        self.check(desk, ("ask : : some x has red x", "yes 1"), ("ask : : all x has red x", "no 1"),
                   ("ask 0 : a : has red a", "yes 0"), ("ask 1 : a : has red a", "no 0"),
                   ("ask 0 : a : count x least 1 has red x", "yes 3"), ("ask 0 1 2 : a b c : and same a b same b c", "no 1"),
                   ("ask : : not some x has red x", "no 1"))
        # It asks the present store.
        self.check(desk, ("put red 1", "all stand"), ("ask : : all x has red x", "yes 0"), ("undo", "ok"),
                   ("ask : : all x has red x", "no 1"))

    def test_long_answers(self):
        desk = Desk(Shelf(LONG_STORE))
        text = "a b : " + LONG.format("all u ")
        self.check(desk, (f"ask 0 7 : {text}", "no 5001"),
                   ("ask : : all x all y all z all u count v rest 2 0 same v v", f"yes {8 ** 5}"))

    def test_errors_of_questions(self):
        desk = desk_with("claim a 2 : a : has red a")
        kept, history = told_of(desk.shelf), history_of(desk.shelf)
        for head in ("ask", "claim b", "claim a", "claim Wrong"):
            self.check(
                desk, (f"{head} :", "error InvalidText"), (f"{head} 0 :", "error InvalidText"),
                (f"{head} 0 : :", "error InvalidText"), (f"{head} 0 : has red a", "error InvalidText"),
                (f"{head} 0 : a : has red", "error InvalidText"), (f"{head} 0 : a : has red b", "error InvalidText"),
                (f"{head} 9 9 : A : has red A", "error InvalidText"), (f"{head} 0 : a : count x least 01 has red x",
                                                                       "error InvalidText"),
                (f"{head} 0 : a : link red a a", "error Unfit"), (f"{head} 9 9 : a : has sea a", "error Unfit"),
                (f"{head} : a : has red a", "error InvalidInputs"), (f"{head} 0 1 : a : has red a", "error InvalidInputs"),
                (f"{head} 3 : a : has red a", "error InvalidInputs"), (f"{head} 0 : : some x has red x", "error InvalidInputs"),
                (f"{head} 01 : a : has red a", "what"), (f"{head} -1 : a : has red a", "what"),
                (f"{head} x : a : has red a", "what"), (f"{head} 0 1 x : no text", "what"), (f"{head}", "what"),
                (f"{head} 0", "what"), (f"{head} 0 a", "what"), (f"{head} 0 1 2", "what"))
        self.assertEqual((told_of(desk.shelf), history_of(desk.shelf)), (kept, history))

    def test_claims(self):
        desk = desk_with()
        self.check(desk, ("claim a 2 : a : has red a", "claimed 0"), ("claim c : : some x has red x", "claimed 1"),
                   ("claim b 0 1 : a b : way x y link road x y a b", "claimed 3"), (f"claim d 0 2 : {FAR}", "claimed 23"))
        for name, question in (("a", "a : has red a"), ("b", "a b : way x y link road x y a b"), ("c", ": some x has red x"),
                               ("d", FAR)):
            claim = desk.shelf.claim(name)
            self.assertEqual(claim.question.text(), question)
            self.assertEqual(list(claim.marks), Weigher(FIRST, claim.question).first(*claim.inputs))
        self.assertEqual(desk.shelf.claim("b").inputs, (0, 1))

    def test_errors_of_claims(self):
        desk = desk_with("claim a 2 : a : has red a")
        kept, history = told_of(desk.shelf), history_of(desk.shelf)
        self.check(desk, ("claim b 0 : a : has red a", "error NoPaper"), ("claim Wrong 0 : a : has red a", "error NoPaper"),
                   ("claim a 0 : a : has red a", "error NoPaper"), ("claim Wrong 2 : a : has red a", "error InvalidName"),
                   ("claim abcdefg 2 : a : has red a", "error InvalidName"), ("claim 7 2 : a : has red a", "error InvalidName"),
                   ("claim a 2 : a : has red a", "error DuplicateName"))
        self.assertEqual((told_of(desk.shelf), history_of(desk.shelf)), (kept, history))
        for name in NAMES[1:]:
            self.assertEqual(desk.answer(f"claim {name} 2 : a : has red a"), "claimed 0")
        self.check(desk, ("claim m 2 : a : has red a", "error Full"), ("claim a 2 : a : has red a", "error DuplicateName"),
                   ("claim M 2 : a : has red a", "error InvalidName"), ("claim m 0 : a : has red a", "error NoPaper"))

    def test_a_first_paper_that_is_too_long(self):
        desk = Desk(Shelf(LONG_STORE))
        for name in ("far", "Far"):
            text = ": all x all y all z all u count v rest 2 0 same v v"
            self.assertEqual(desk.answer(f"claim {name} : {text}"), "error TooLong")
            self.assertEqual(desk.answer(f"claim {name} 0 : {text}"), "error InvalidInputs")
        self.assertEqual(desk.answer("claim far 0 7 : a b : not " + LONG.format("")), "claimed 5000")

    def test_names_of_claims(self):
        desk = desk_with("claim a 2 : a : has red a", "put red 0")
        kept, history = told_of(desk.shelf), history_of(desk.shelf)
        for word in ("again", "forget"):
            self.check(desk, (f"{word} b", "error UnknownName"), (f"{word} A", "error UnknownName"),
                       (f"{word} 7", "error UnknownName"), (f"{word}", "what"), (f"{word} a a", "what"), (f"{word} a 0", "what"))
        self.assertEqual((told_of(desk.shelf), history_of(desk.shelf)), (kept, history))

    def test_history(self):
        desk = desk_with()
        self.check(desk, ("undo", "error NothingLeft"), ("redo", "error NothingLeft"), ("put red 0", "all stand"),
                   ("redo", "error NothingLeft"), ("undo", "ok"), ("undo", "error NothingLeft"), ("redo", "ok"),
                   ("undo 1", "what"), ("redo x", "what"), ("states 1", "what"), ("states a", "what"), ("undo undo", "what"))

    def test_lines_of_no_form(self):
        desk = desk_with("claim a 2 : a : has red a", "put red 0")
        kept, history = told_of(desk.shelf), history_of(desk.shelf)
        for line in ("", " ", "  ", "what", "Put red 0", " put red 0", "put red 0 ", "put  red 0", "put red  0", " states",
                     "states ", "undo ", " undo", "ask  : : some x has red x", "ask : : some  x has red x",
                     "ask : : some x has red x ", "ask :  : some x has red x", "ask : ", "claim b 2 : a :  has red a",
                     "claim  b 2 : a : has red a", "again  a", "forget a ", "do put red 0", "state", "claims", "put\nred 0",
                     "states\n", "undo\n", ":", ": ask", "0", "put red 0\n", "ask 0\n : a : has red a"):
            self.check(desk, (line, "what"))
        self.assertEqual((told_of(desk.shelf), history_of(desk.shelf)), (kept, history))

    def test_numbers(self):
        desk = Desk(Shelf(Store(8, {"red": (1, [])})))
        for word, answer in (("0", "all stand"), ("7", "all stand"), ("8", "error InvalidThings"), ("00", "what"), ("07", "what"),
                             ("-0", "what"), ("+7", "what"), ("7.", "what"), ("7x", "what"), ("x7", "what"), ("1_0", "what"),
                             ("123456789012345", "error InvalidThings")):
            self.assertEqual(desk.answer(f"put red {word}"), answer, word)
            asked = {"all stand": "yes 0", "error InvalidThings": "error InvalidInputs"}.get(answer, answer)
            self.assertEqual(desk.answer(f"ask {word} : a : same a a"), asked)
            claimed = {"yes 0": "claimed 0"}.get(asked, asked)
            self.assertEqual(desk.answer(f"claim a {word} : a : same a a"), claimed)
            desk.answer("forget a")

    def test_by_turns_with_the_shelf(self):
        draw = random.Random(81)
        for _ in range(20):
            desk, shelf = Desk(Shelf(FIRST)), Shelf(FIRST)
            for _ in range(40):
                line, call = self.drawn_call(draw, shelf)
                try:
                    expected = call()
                except (ValueError, LookupError) as error:
                    expected = f"error {error.code}"
                if draw.random() < 0.3:
                    # The same by a call of the shelf of the desk.
                    twin = Desk(desk.shelf.twin())
                    self.assertEqual(twin.answer(line), expected)
                self.assertEqual(desk.answer(line), expected)
                self.assertEqual(desk.shelf, shelf)
                self.assertEqual(history_of(desk.shelf), history_of(shelf))

    def drawn_call(self, draw, shelf):
        """A line, and what it means for the shelf."""
        word, name = draw.choice(("put", "drop", "claim", "claim", "again", "forget", "undo", "redo", "states")), draw.choice("abc")
        row = (draw.randrange(4), draw.randrange(3))
        if word in ("put", "drop"):
            return f"{word} road {row[0]} {row[1]}", lambda: self.stand(shelf.do((word, "road", *row)))
        if word == "claim":
            text = draw.choice(("a b : link road a b", "a b : not link road a b", "a b : way x y link road x y a b"))
            return f"claim {name} {row[0]} {row[1]} : {text}", lambda: self.claim(shelf, name, row, text)
        if word in ("again", "forget"):
            return f"{word} {name}", lambda: self.ok(shelf.do((word, name)))
        if word == "states":
            return word, lambda: " ".join(f"{each} {'stands' if shelf.stands(each) else 'doubtful'}"
                                          for each in shelf.claimed()) or "nothing"
        return word, lambda: self.ok(shelf.undo() if word == "undo" else shelf.redo())

    def ok(self, _):
        return "ok"

    def stand(self, names):
        return " ".join(["doubtful", *names]) if names else "all stand"

    def claim(self, shelf, name, inputs, text):
        marks = tuple(Weigher(shelf.store, Question.read(text)).first(*inputs))
        shelf.do(("claim", name, text, inputs, marks))
        return f"claimed {len(marks)}"


class Tables(unittest.TestCase):
    def test_table(self):
        shelf = Shelf(made(3, [2], [(0, 1)]))
        self.assertEqual(claims_table(shelf), [])
        desk = Desk(shelf)
        for line in (f"claim far 0 2 : {FAR}", "claim abcdef 0 1 : a b : link road a b", "claim b : : some x has red x",
                     "put road 1 2"):
            desk.answer(line)
        self.assertEqual(claims_table(shelf), ["abcdef     0 stands", "b          1 stands", "far       23 doubtful"])
        self.assertEqual(claims_table(shelf=shelf), claims_table(shelf))
        self.assertIs(type(claims_table(shelf)), list)

    def test_long_numbers(self):
        shelf = Shelf(LONG_STORE)
        Desk(shelf).answer("claim long 0 7 : a b : not " + LONG.format(""))
        self.assertEqual(claims_table(shelf), ["long    5000 stands"])
        question = ": all x all y all z all u same u u"
        shelf.do(("claim", "empty", question, (), ()))
        self.assertEqual(claims_table(shelf), ["empty      0 stands", "long    5000 stands"])
        self.assertEqual(raised(shelf.claim, "x").code, "UnknownName")


if __name__ == "__main__":
    unittest.main()
