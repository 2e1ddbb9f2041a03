"""[18]: the page of a shelf, there and back, and the number of the line of a text that is no page."""

import random
import unittest

from helper import raised, told
from oncethrough.questions import Question
from oncethrough.shelves import Shelf
from oncethrough.stores import Store
from oncethrough.weights import Weigher
from samples import KINDS, NESTED, made, pairs
from test_shelves import CLAIM_FAR, CLAIM_NEAR, FIRST, NAMES, history_of, told_of

PAGE = """things 3
table red 1
row 2
table road 2
row 0 1
row 1 2
claim far
a b : not way x y link road x y a b
inputs 0 2
marks 1 0 1 1 1 0 0 0 1 0 1 1 1 0 0 0 1 1 0 0 1 1 0
yes road 0 1
no road 0 2
no road 1 2
claim near
a b : link road a b
inputs 0 1
marks
yes road 0 1
claim some
: some x has red x
inputs
marks 2
yes red 2"""
LINES = PAGE.split("\n")

# The lines of the page by what stands in them.
CLAIM_LINES, QUESTION_LINES, MARK_LINES, LOOK_LINES = (6, 13, 18), (7, 14, 19), (9, 16, 21), (10, 11, 12, 17, 22)


def sample():
    shelf = Shelf(FIRST)
    shelf.do(CLAIM_FAR, CLAIM_NEAR, ("claim", "some", ": some x has red x", (), (2,)))
    shelf.do(("put", "road", 1, 2))
    return shelf


def exchanged(at, line):
    return [*LINES[:at], line, *LINES[at + 1:]]


class Pages(unittest.TestCase):
    def test_page(self):
        shelf = sample()
        self.assertEqual(shelf.doubtful(), ["far"])
        self.assertEqual(shelf.page(), PAGE)
        self.assertEqual(Shelf.read(PAGE), shelf)
        self.assertEqual(Shelf.read(text=PAGE), shelf)
        self.assertEqual(shelf.read(PAGE), shelf)
        self.assertEqual(Shelf.read(PAGE).page(), PAGE)
        self.assertEqual(Shelf.read(PAGE).doubtful(), ["far"])
        self.assertEqual(told_of(Shelf.read(PAGE)), told_of(shelf))

    def test_a_shelf_without_claims(self):
        for store in (FIRST, Store(1, {}), Store(8, {"a": (2, [])}), made(3, [0, 1, 2], pairs(3))):
            self.assertEqual(Shelf(store).page(), store.page())
            self.assertEqual(Shelf.read(store.page()), Shelf(store))

    def test_a_shelf_that_is_read_has_no_history(self):
        shelf = Shelf.read(PAGE)
        self.assertEqual(history_of(shelf), [])
        self.assertEqual(told(raised(shelf.undo)), ("NothingLeft", {}))
        shelf.do(("forget", "far"))
        shelf.undo()
        self.assertEqual(shelf.page(), PAGE)
        # The shelf that was read from has its history still.
        other = sample()
        other.page()
        self.assertNotEqual(history_of(other), [])

    def test_claims_that_are_read_go_on(self):
        shelf = Shelf.read(PAGE)
        self.assertEqual(shelf.do(("drop", "road", 1, 2)), [])
        self.assertEqual(shelf.do(("again", "far"), ("drop", "road", 0, 1)), ["far", "near"])

    def test_names_like_the_first_words_of_lines(self):
        shelf = Shelf(Store(2, {"claim": (1, [(0,)]), "yes": (2, []), "no": (1, []), "marks": (1, [(1,)])}))
        shelf.do(("claim", "yes", "a : has claim a", (0,), ()), ("claim", "no", "claim : not has no claim", (1,), ()),
                 ("claim", "row", "a b : not link yes a b", (1, 0), ()), ("claim", "marks", "inputs : has marks inputs", (1,), ()))
        self.assertEqual(Shelf.read(shelf.page()), shelf)
        self.assertEqual(Shelf.read(shelf.page()).page(), shelf.page())

    def test_there_and_back(self):
        draw = random.Random(71)
        doubtful = 0
        for _ in range(60):
            size = draw.randint(1, 4)
            store = made(size, [thing for thing in range(size) if draw.random() < 0.5],
                         [pair for pair in pairs(size) if draw.random() < 0.4])
            shelf = Shelf(store)
            for name in draw.sample(NAMES, draw.randint(0, 12)):
                question = Question(("a", "b"), draw.choice(KINDS + NESTED))
                inputs = (draw.randrange(size), draw.randrange(size))
                weigher = Weigher(store, question)
                if weigher.least(*inputs) is None:
                    question = question.denied()
                    weigher = Weigher(store, question)
                if weigher.least(*inputs) < 1500:
                    shelf.do(("claim", name, question.text(), inputs, tuple(weigher.first(*inputs))))
            for _ in range(draw.randint(0, 2)):
                shelf.do((draw.choice(("put", "drop")), "road", draw.randrange(size), draw.randrange(size)))
            doubtful += len(shelf.doubtful())
            self.assertEqual(Shelf.read(shelf.page()), shelf)
            self.assertEqual(Shelf.read(shelf.page()).page(), shelf.page())
            self.assertEqual(Shelf.read(shelf.page()).doubtful(), shelf.doubtful())
        self.assertGreater(doubtful, 20)

    def test_12_and_13_claims(self):
        shelf = Shelf(FIRST)
        shelf.do(*[("claim", name, "a b : link road a b", (0, 1), ()) for name in NAMES])
        page = shelf.page()
        self.assertEqual(Shelf.read(page), shelf)
        more = page + "\nclaim m\na b : link road a b\ninputs 0 1\nmarks\nyes road 0 1"
        self.assertEqual(told(raised(Shelf.read, more)), ("InvalidText", {"line": len(page.split("\n"))}))


class NoPages(unittest.TestCase):
    def check(self, lines, line):
        text = lines if isinstance(lines, str) else "\n".join(lines)
        self.assertEqual(told(raised(Shelf.read, text)), ("InvalidText", {"line": line}), text)

    def test_other_values(self):
        for value in (None, 3, True, (), [PAGE], (PAGE,), LINES):
            self.assertEqual(told(raised(Shelf.read, value)), ("InvalidText", {"line": 0}))

    def test_empty(self):
        self.check("", 0)
        self.check("\n", 0)
        self.check("\n" + PAGE, 0)
        self.check(PAGE + "\n", len(LINES))

    def test_lines_that_are_missing_at_the_end(self):
        # The page may end behind the store and behind each claim, but then its looks are missing.
        for many in range(1, len(LINES)):
            if many <= 6:
                self.assertEqual(len(Shelf.read("\n".join(LINES[:many]))), 0)
            elif many in (13, 18):
                self.assertEqual(len(Shelf.read("\n".join(LINES[:many]))), 1 if many == 13 else 2)
            elif many in (7, 8, 9, 14, 15, 16, 19, 20, 21):
                self.check(LINES[:many], many)
            else:
                # The claim is whole by its form, but these are not all looks of its paper.
                self.check(LINES[:many], max(at for at in CLAIM_LINES if at < many))

    def test_lines_of_the_store(self):
        for at, line in ((0, "things 9"), (1, "table Red 1"), (2, "row 3"), (3, "table blue 2"), (4, "row 0"), (5, "row 0 0"),
                         (5, "row 0 1"), (1, "row 0"), (3, "table red 2"), (4, "row 0  1")):
            self.check(exchanged(at, line), at)

    def test_each_line_spoilt(self):
        for at, line in enumerate(LINES):
            for spoilt in ("", " ", line + " ", " " + line, line.replace(" ", "  ", 1) if " " in line else line + "  ", line + " x",
                           line.upper(), "what", line[:3] + "#"):
                self.check(exchanged(at, spoilt), at)

    def test_each_line_doubled(self):
        for at in range(len(LINES)):
            self.check([*LINES[:at + 1], *LINES[at:]], at + 1)

    def test_each_line_left_out(self):
        for at in range(len(LINES) - 1):
            left = [*LINES[:at], *LINES[at + 1:]]
            if at in (2, 4, 5):
                # The rows of the store say nothing of the papers, but the looks do.
                self.assertEqual(Shelf.read("\n".join(left)).claimed(), ["far", "near", "some"])
            elif at in LOOK_LINES:
                self.check(left, max(line for line in CLAIM_LINES if line < at))
            elif at == 3:
                # The first row of the next table is a row with too many things.
                self.check(left, 3)
            elif at == 1:
                self.check(left, 1)
            else:
                self.check(left, at)
        self.check(LINES[:-1], 18)

    def test_each_pair_of_lines_exchanged(self):
        for at in range(len(LINES) - 1):
            lines = [*LINES[:at], LINES[at + 1], LINES[at], *LINES[at + 2:]]
            # The second one of these may come early, but then the first one cannot stand behind it.
            self.check(lines, at + 1 if at in (2, 4, 5, 10, 11, 12, 17) else at)

    def test_the_line_of_a_claim(self):
        for line in ("claim", "claim ", "claim Far", "claim far far", "claim abcdefg", "claim f2", "Claim far", "claims far",
                     "yes road 0 1", "no road 0 2", "inputs 0 2", "marks", "row 2 2", "table sea 1", "a b : link road a b"):
            self.check(exchanged(6, line), 7 if line == "row 2 2" or line == "table sea 1" else 6)
        for line in ("claim far", "claim a", "claim faq", "claim fa"):
            self.check(exchanged(13, line), 13)
        self.assertEqual(Shelf.read("\n".join(exchanged(13, "claim fas"))).claimed(), ["far", "fas", "some"])
        # Not greater than the name ahead, though greater than the first one.
        for line in ("claim near", "claim g", "claim nea"):
            self.check(exchanged(18, line), 18)

    def test_the_line_of_a_question(self):
        for line in ("", "a", "a b", "a b : link road a", "a b : link sea a b", "a b : has road a", "a b : link red a b",
                     "a b : and has red a has blue a", "a b: link road a b", "A B : link road A B", "claim near", "marks"):
            for at in QUESTION_LINES:
                self.check(exchanged(at, line), at)

    def test_the_line_of_inputs(self):
        for line in ("input 0 2", "inputs0 2", "inputs 0 3", "inputs 0 02", "inputs 0 +2", "inputs 0 -1", "inputs a b", "inputs 0",
                     "inputs 0 1 2", "inputs 0  2", "inputs 0 2 ", "inputs 0 1000000000000000", "marks 0 2", "0 2"):
            self.check(exchanged(8, line), 8)
            self.check(exchanged(15, line), 15)
        for line in ("inputs 0", "inputs ", "inputs x", ""):
            self.check(exchanged(20, line), 20)
        # Other things have other papers.
        self.check(exchanged(8, "inputs 1 2"), 6)
        self.check(exchanged(15, "inputs 1 0"), 13)

    def test_the_line_of_marks(self):
        for line in ("mark 2", "marks ", "marks -1", "marks 02", "marks +2", "marks x", "marks 2 ", "marks  2", "2", "", "inputs",
                     "marks 1000000000000000", "marks 2 x"):
            for at in MARK_LINES:
                self.check(exchanged(at, line), at)

    def test_marks_that_are_no_paper(self):
        for line in ("marks", "marks 3", "marks 2 2", "marks 0", "marks 999999999999999"):
            self.check(exchanged(21, line), 18)
        for line in ("marks 0", "marks 1", "marks 999999999999999"):
            self.check(exchanged(16, line), 13)
        marks = LINES[9].split(" ")
        for at in range(1, len(marks)):
            for mark in ("0", "1", "2", "3"):
                if mark != marks[at]:
                    self.check(exchanged(9, " ".join([*marks[:at], mark, *marks[at + 1:]])), 6)

    def test_the_lines_of_looks(self):
        for line in ("yes", "no", "yes ", "yes road", "yes road 0", "yes road 0 1 2", "yes road 0 3", "yes road 0 01", "yes sea 0 1",
                     "yes red 0 1", "yes Road 0 1", "Yes road 0 1", "maybe road 0 1", "yes road 0 -1", "yes  road 0 1",
                     "yes road 0 1 ", "road 0 1", "marks", "row 0 1", "yes 0 1", "yes road x y"):
            self.check(exchanged(10, line), 10)
            self.check(exchanged(17, line), 17)
        # Ascending by table, then row: no row comes twice, whatever its answer is.
        for line in ("yes road 0 1", "no road 0 1", "no road 0 0", "no red 2"):
            self.check(exchanged(11, line), 11)
        for line in ("yes road 0 2", "no road 0 2", "yes road 0 1", "no road 0 0"):
            self.check(exchanged(12, line), 12)

    def test_looks_that_are_not_those_of_the_paper(self):
        for at, line in ((10, "no road 0 1"), (10, "yes road 0 0"), (10, "yes red 0"), (11, "yes road 0 2"), (11, "no road 1 0"),
                         (12, "yes road 1 2"), (12, "no road 2 2")):
            self.check(exchanged(at, line), 6)
        for line in ("no road 0 1", "yes road 0 2", "yes red 0"):
            self.check(exchanged(17, line), 13)
        for line in ("no red 2", "yes red 1", "yes road 2 2"):
            self.check(exchanged(22, line), 18)
        self.check([*LINES, "no road 2 2"], 18)
        self.check([*LINES, "yes road 2 2"], 18)
        self.check([*LINES[:17], *LINES[18:]], 13)
        self.check([*LINES[:13], "yes road 2 2", *LINES[13:]], 6)

    def test_form_comes_ahead_of_papers(self):
        # The paper of the first claim is none, but a later line cannot stand there.
        spoilt = exchanged(9, "marks 0")
        self.check(spoilt, 6)
        for at, line in ((22, "yes red 3"), (14, "no text"), (21, "marks x")):
            self.check([*spoilt[:at], line, *spoilt[at + 1:]], at)
        self.check([*spoilt, ""], len(LINES))
        self.check(spoilt[:19], 19)
        # Of several papers the first one counts.
        both = [*spoilt[:21], "marks 0", spoilt[22]]
        self.check(both, 6)

    def test_the_rows_of_the_store_do_not_matter_for_papers(self):
        for left in (2, 4, 5):
            self.assertEqual(len(Shelf.read("\n".join([*LINES[:left], *LINES[left + 1:]]))), 3)
        shelf = Shelf.read("\n".join([*LINES[:4], *LINES[6:]]))
        self.assertEqual(shelf.doubtful(), ["far", "near"])

    def test_another_size(self):
        self.check(exchanged(0, "things 4"), 6)
        self.check(exchanged(0, "things 2"), 2)
        lines = ["things 4", *LINES[1:6], *LINES[13:]]
        self.assertEqual(Shelf.read("\n".join(lines)).claimed(), ["near", "some"])


if __name__ == "__main__":
    unittest.main()
