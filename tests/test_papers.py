"""[7], [8] and the interface of papers.py: which lists are papers, and their looks."""

import unittest
from itertools import product

import second
from helper import ODD_VALUES, mutants, plain, raised, told
from oncethrough.papers import is_paper, looks_of
from oncethrough.questions import Question
from oncethrough.stores import Store
from oncethrough.weights import Weigher
from samples import KINDS, NESTED, every_small_store, line, made, pairs, ring, some_stores

WAY = Question.read("a b : way x y link road x y a b")
EXAMPLE = made(3, [], [(0, 1)])
MARKS = [1, 0, 1, 1, 1, 0, 0, 0, 1, 0, 1, 1, 1, 0, 0, 0, 1, 1, 0, 0, 1, 1, 0]


def all_lists(size, most):
    """All lists of at most so many marks that are at most the size, which is no thing."""
    return [list(marks) for length in range(most + 1) for marks in product(range(size + 1), repeat=length)]


def sides(saying):
    """A question, and the one that is denied; False stands for no papers."""
    question = Question(("a", "b"), saying)
    return ((True, question), (False, question.denied()))


def second_papers(store, saying, inputs, yes, most):
    return set(second.papers(plain(store), saying, dict(zip("ab", inputs)), yes, most))


class Papers(unittest.TestCase):
    def check(self, store, saying, inputs, lists, most):
        for yes, question in sides(saying):
            papers = second_papers(store, saying, inputs, yes, most)
            for marks in lists:
                self.assertIs(is_paper(store, question, inputs, marks), tuple(marks) in papers,
                              (question, store.page(), inputs, marks))

    def test_all_short_lists_in_small_stores(self):
        lists = {size: all_lists(size, 5) for size in (1, 2)}
        for store in every_small_store()[::7]:
            for saying in KINDS:
                for inputs in pairs(store.size)[:3]:
                    self.check(store, saying, inputs, lists[store.size], 5)

    def test_all_short_lists_for_sayings_within_one_another(self):
        lists = {size: all_lists(size, 5) for size in (1, 2)}
        for store in every_small_store()[::9]:
            for saying in NESTED:
                self.check(store, saying, (0, store.size - 1), lists[store.size], 5)

    def test_all_short_lists_in_a_store_of_three_things(self):
        lists = all_lists(3, 5)
        for store in some_stores()[3:5]:
            for saying in KINDS:
                self.check(store, saying, (0, 2), lists, 5)

    def test_changed_papers(self):
        for store in some_stores():
            for saying in KINDS + NESTED[:11]:
                for inputs in ((0, 2), (2, 1)):
                    self.check_changed(store, saying, inputs)

    def check_changed(self, store, saying, inputs):
        weigher = Weigher(store, Question(("a", "b"), saying))
        for yes, question in sides(saying):
            least = weigher.least(*inputs, yes=yes)
            if least is None or least > 11:
                continue
            papers = second_papers(store, saying, inputs, yes, least + 1)
            for marks in mutants(weigher.first(*inputs, yes=yes), store.size):
                self.assertIs(is_paper(store, question, inputs, marks), tuple(marks) in papers,
                              (question, store.page(), inputs, marks))

    def test_long_papers_made_the_second_way(self):
        store = made(3, [], [(0, 1), (1, 0)])
        for saying, most in ((WAY.saying, 29), (("within", 2, *WAY.saying[1:]), 29)):
            papers = second_papers(store, saying, (0, 2), False, most)
            self.assertEqual(len(papers), 2)
            for marks in papers:
                self.assertIs(is_paper(store, Question(("a", "b"), ("not", saying)), (0, 2), marks), True)
                self.assertIs(is_paper(store, Question(("a", "b"), saying), (0, 2), marks), False)

    # A no paper in a store in which steps lead from 0 to 1 and back: bits, and traces with the things at which they end.
    BOTH = made(3, [], [(0, 1), (1, 0)])
    PIECES = ([1], [0], [1], [1, 1, 0], [0], [0], [1], [0], [1], [1, 1, 0], [0], [0], [1, 1, 0], [0], [1, 1, 0])
    ENDS = (None, 0, None, 1, None, 0, None, 0, None, 1, None, 0, 1, 0, 1)

    def check_pieces(self, pieces, holds):
        marks = [mark for piece in pieces for mark in piece]
        self.assertIs(is_paper(self.BOTH, WAY.denied(), (0, 2), marks), holds, pieces)

    def test_traces_with_a_step_too_many(self):
        self.check_pieces(self.PIECES, True)
        for at, end in enumerate(self.ENDS):
            if end is not None:
                longer = [1, 1, 1, 0, *self.PIECES[at]]
                # Two steps may be taken in the second round alone, to 0; back to 1 there would be three.
                self.check_pieces([*self.PIECES[:at], longer, *self.PIECES[at + 1:]], at == 7)

    def test_entries_and_last_lists_that_do_not_ascend(self):
        one, two = [0], [1, 1, 0]
        for at in (11, 13):
            for first, other in ((one, two), (two, one), (one, one), (two, two)):
                self.check_pieces([*self.PIECES[:at], first, other, *self.PIECES[at + 2:]], (first, other) == (one, two))
            for many in ([], [one], [two], [one, two, two], [one, one, two], [one, two, one]):
                self.check_pieces([*self.PIECES[:at], *many, *self.PIECES[at + 2:]], False)

    def test_rounds_too_few_and_too_many(self):
        first, other, last = self.PIECES[:6], self.PIECES[6:13], self.PIECES[13:]
        self.check_pieces([*first, *other, *last], True)
        for rounds in ([first], [other], [first, first], [other, other], [first, other, other], [first, first, other]):
            self.check_pieces([*[piece for each in rounds for piece in each], *last], False)

    def test_entries_at_the_thing_itself(self):
        # If an entry might end at its own thing, bits 0 alone would show that nothing is reached, not even the beginning.
        for store in (line(2), made(2, [], []), self.BOTH, line(4)):
            for inputs in ((0, 1), (0, 0), (1, 0)):
                for many in range(40):
                    self.assertIs(is_paper(store, WAY.denied(), inputs, [0] * many), False)

    def test_the_example(self):
        self.assertIs(is_paper(EXAMPLE, WAY.denied(), (0, 2), MARKS), True)
        self.assertIs(is_paper(EXAMPLE, WAY, (0, 2), MARKS), False)
        self.assertEqual(second_papers(EXAMPLE, WAY.saying, (0, 2), False, 23), {tuple(MARKS)})
        for marks in mutants(MARKS, 3):
            self.assertIs(is_paper(EXAMPLE, WAY.denied(), (0, 2), marks), marks == MARKS, marks)
        for inputs in pairs(3):
            self.assertIs(is_paper(EXAMPLE, WAY.denied(), inputs, MARKS), inputs == (0, 2))

    def test_the_example_in_other_stores(self):
        for row in pairs(3):
            other = EXAMPLE.drop("road", *row) if row == (0, 1) else EXAMPLE.put("road", *row)
            asked = row in ((0, 1), (0, 2), (1, 2))
            self.assertIs(is_paper(other, WAY.denied(), (0, 2), MARKS), not asked, row)
        self.assertIs(is_paper(made(4, [], [(0, 1)]), WAY.denied(), (0, 2), MARKS), False)

    def test_traces_may_be_long_and_go_round(self):
        marks = [1, 1, 1, 2, 1, 0] * 1000
        self.assertIs(is_paper(ring(3), WAY, (0, 0), [*marks, 0]), True)
        self.assertIs(is_paper(ring(3), WAY, (0, 1), [*marks, 0]), False)
        self.assertIs(is_paper(ring(3), WAY, (0, 1), [*marks, 1, 1, 0]), True)
        self.assertIs(is_paper(ring(3), WAY, (0, 0), marks), False)
        within = Question(("a", "b"), ("within", 3, *WAY.saying[1:]))
        self.assertIs(is_paper(ring(3), within, (0, 0), [*marks[:6], 0]), True)
        self.assertIs(is_paper(ring(3), within, (0, 1), [*marks[:6], 1, 1, 0]), False)

    def test_lists_and_tuples(self):
        self.assertIs(is_paper(EXAMPLE, WAY.denied(), [0, 2], tuple(MARKS)), True)
        self.assertIs(is_paper(marks=MARKS, inputs=[0, 2], question=WAY.denied(), store=EXAMPLE), True)
        marks = list(MARKS)
        is_paper(EXAMPLE, WAY.denied(), (0, 2), marks)
        self.assertEqual(marks, MARKS)

    def test_other_marks(self):
        for mark in ODD_VALUES + ("0", "1", -2, 3, 10 ** 14, (0,), [1]):
            for at, old in enumerate(MARKS):
                self.assertIs(is_paper(EXAMPLE, WAY.denied(), (0, 2), [*MARKS[:at], mark, *MARKS[at + 1:]]), False)
            for at in range(len(MARKS) + 1):
                self.assertIs(is_paper(EXAMPLE, WAY.denied(), (0, 2), [*MARKS[:at], mark, *MARKS[at:]]), False)

    def test_other_marks_in_each_place_that_takes_one(self):
        store = made(2, [0, 1], pairs(2))
        for text, marks in (("or same a a same a a", [1]), ("some x same x x", [1]), ("not and less a a less a a", [0]),
                            ("not all x less x x", [0]), ("count x least 0 same x x", [1, 1]),
                            ("way x y link road x y a a", [1, 1, 1, 0, 0]), ("not within 0 x y same x y a b", [0])):
            question = Question.read("a b : " + text)
            self.assertIs(is_paper(store, question, (0, 1), marks), True, text)
            for at in range(len(marks)):
                for mark in (-1, 2, True, False, "0", "1", None, (), (1,), [0]):
                    self.assertIs(is_paper(store, question, (0, 1), [*marks[:at], mark, *marks[at + 1:]]), False)
            self.assertIs(is_paper(store, question, (0, 1), [*marks, 0]), False)
            self.assertIs(is_paper(store, question, (0, 1), marks[:-1]), False)

    def test_a_paper_for_each_true_answer_alone(self):
        for store in some_stores():
            for saying in KINDS + NESTED:
                for inputs in pairs(store.size):
                    holds = second.truth(plain(store), saying, dict(zip("ab", inputs)))
                    weigher = Weigher(store, Question(("a", "b"), saying))
                    one, other = sides(saying)
                    kept, left = (one[1], other[1]) if holds else (other[1], one[1])
                    marks = weigher.first(*inputs, yes=holds)
                    self.assertIs(is_paper(store, kept, inputs, marks), True)
                    self.assertIs(is_paper(store, left, inputs, marks), False)

    def test_no_paper_of_the_other_question_is_made(self):
        for store in some_stores()[:5]:
            for saying in KINDS + NESTED[:8]:
                holds = second.truth(plain(store), saying, {"a": 0, "b": 2})
                self.assertEqual(second_papers(store, saying, (0, 2), not holds, 7), set())


class Errors(unittest.TestCase):
    def test_the_order(self):
        for call in (is_paper, looks_of):
            for inputs in ((0, 1), None, (0, 9)):
                self.assertEqual(told(raised(call, Store(2, {}), WAY, inputs, None)), ("Unfit", {"name": "road"}))
            for inputs in ((0,), (0, 1, 1), (0, 2), (True, 1), "01", None, 5):
                given = inputs if isinstance(inputs, tuple) else (inputs,)
                for marks in ([], [0], [-1]):
                    error = raised(call, line(2), WAY, inputs, marks)
                    self.assertEqual(told(error), ("InvalidInputs", {"given": given}))
        self.assertEqual(told(raised(looks_of, line(2), WAY, (0, 2), None))[0], "InvalidInputs")

    def test_unfitting_stores(self):
        question = Question.read("a : and has d a and link c a a has b a")
        for tables, name in (({"c": (1, [])}, "b"), ({"b": (1, [])}, "c"), ({"b": (1, []), "c": (1, [])}, "c"),
                             ({"b": (1, []), "c": (2, [])}, "d")):
            for call in (is_paper, looks_of):
                self.assertEqual(told(raised(call, Store(2, tables), question, (0,), [])), ("Unfit", {"name": name}))

    def test_no_paper(self):
        for marks in (*ODD_VALUES, [0], [1, 1], [1, 1, 0, 0], [1, 0, 0], "110", [True, 1, 0], [1, 1, False], (1, 1, 0, None)):
            self.assertEqual(told(raised(looks_of, line(2), WAY, (0, 1), marks)), ("NoPaper", {}), repr(marks))
        self.assertEqual(looks_of(line(2), WAY, (0, 1), (1, 1, 0)), [("road", (0, 1), True)])

    def test_an_empty_paper_is_a_list_all_the_same(self):
        question = Question.read("a : same a a")
        self.assertEqual(looks_of(line(2), question, (1,), []), [])
        self.assertEqual(looks_of(line(2), question, (1,), ()), [])
        for marks in ("", None, 0, False):
            self.assertEqual(told(raised(looks_of, line(2), question, (1,), marks)), ("NoPaper", {}))


class Looks(unittest.TestCase):
    def test_by_hand(self):
        store = made(3, [1], [(0, 1), (1, 2)])
        for text, marks, looks in (
                ("has red b", [], [("red", (1,), True)]),
                ("not has red a", [], [("red", (0,), False)]),
                ("not not has red b", [], [("red", (1,), True)]),
                ("link road a b", [], [("road", (0, 1), True)]),
                ("not link road b a", [], [("road", (1, 0), False)]),
                ("and less a b not same a b", [], []),
                ("and has red b link road a b", [], [("red", (1,), True), ("road", (0, 1), True)]),
                ("and has red b has red b", [], [("red", (1,), True)]),
                ("or has red a has red b", [1], [("red", (1,), True)]),
                ("not and has red a has red b", [0], [("red", (0,), False)]),
                ("not or has red a link road b a", [], [("red", (0,), False), ("road", (1, 0), False)]),
                ("some x link road x b", [0], [("road", (0, 1), True)]),
                ("not some x link road x a", [], [("road", (x, 0), False) for x in range(3)]),
                ("not all x has red x", [2], [("red", (2,), False)]),
                ("count x most 1 has red x", [0, 1, 0], [("red", (0,), False), ("red", (1,), True), ("red", (2,), False)]),
                ("way x y link road x y a b", [1, 1, 0], [("road", (0, 1), True)]),
                ("not within 0 x y link road x y a b", [0], []),
                ("not within 1 x y link road x y b a", [0, 0, 1, 0, 1, 1, 2, 0, 0, 1, 2, 0],
                 [("road", (1, 0), False), ("road", (1, 2), True)])):
            question = Question.read("a b : " + text)
            self.assertEqual(looks_of(store, question, (0, 1), marks), looks, text)

    def test_the_example(self):
        looks = [("road", (0, 1), True), ("road", (0, 2), False), ("road", (1, 2), False)]
        self.assertEqual(looks_of(EXAMPLE, WAY.denied(), (0, 2), MARKS), looks)
        self.assertEqual(looks_of(marks=tuple(MARKS), inputs=[0, 2], question=WAY.denied(), store=EXAMPLE), looks)
        looks_of(EXAMPLE, WAY.denied(), (0, 2), MARKS).clear()
        self.assertEqual(looks_of(EXAMPLE, WAY.denied(), (0, 2), MARKS), looks)

    def each_first_paper(self):
        for store in some_stores():
            for saying in KINDS + NESTED:
                inputs = (0, store.size - 1)
                for yes, question in sides(saying):
                    weigher = Weigher(store, Question(("a", "b"), saying))
                    if weigher.least(*inputs, yes=yes) is not None:
                        yield store, question, inputs, weigher.first(*inputs, yes=yes)

    def test_ascending_and_true(self):
        for store, question, inputs, marks in self.each_first_paper():
            looks = looks_of(store, question, inputs, marks)
            self.assertIs(type(looks), list)
            self.assertEqual(looks, sorted(set(looks)))
            for table, row, answer in looks:
                self.assertIs(type(row), tuple)
                self.assertIs(store.holds(table, *row), answer)

    def test_a_paper_hangs_on_its_looks_alone(self):
        for store, question, inputs, marks in self.each_first_paper():
            looks = looks_of(store, question, inputs, marks)
            asked = {(table, row) for table, row, _ in looks}
            for table, rows in (("red", [(thing,) for thing in range(store.size)]), ("road", pairs(store.size))):
                for row in rows:
                    other = store.drop(table, *row) if store.holds(table, *row) else store.put(table, *row)
                    kept = (table, row) not in asked
                    self.assertIs(is_paper(other, question, inputs, marks), kept, (question, store.page(), row))
                    if kept:
                        self.assertEqual(looks_of(other, question, inputs, marks), looks)

    def test_papers_of_a_question_that_grows(self):
        for store, question, inputs, marks in self.each_first_paper():
            if question.grows():
                for row in pairs(store.size):
                    self.assertIs(is_paper(store.put("road", *row), question, inputs, marks), True)
                    self.assertIs(is_paper(store.put("red", row[0]), question, inputs, marks), True)


if __name__ == "__main__":
    unittest.main()
