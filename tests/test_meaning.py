"""[4], [5] and the interface of meaning.py: truth, and the errors of what does not fit."""

import unittest
from itertools import product

import second
from helper import ODD_VALUES, plain, raised, told
from oncethrough.meaning import truth
from oncethrough.questions import Question
from oncethrough.stores import Store
from samples import KINDS, NESTED, TESTS, every_small_store, line, made, pairs, ring, some_stores

WAY = ("way", "x", "y", ("link", "road", "x", "y"), "a", "b")


def within(steps):
    return ("within", steps, *WAY[1:])


class Truth(unittest.TestCase):
    def check(self, store, saying):
        question = Question(("a", "b"), saying)
        for inputs in pairs(store.size):
            holds = second.truth(plain(store), saying, dict(zip("ab", inputs)))
            self.assertIs(truth(store, question, inputs), holds, (question, store.page(), inputs))

    def test_each_kind(self):
        for store in every_small_store() + some_stores():
            for saying in KINDS:
                self.check(store, saying)

    def test_sayings_within_one_another(self):
        for store in every_small_store() + some_stores():
            for saying in NESTED:
                self.check(store, saying)

    def test_by_hand(self):
        store = made(3, [1], [(0, 1), (1, 2)])
        for text, inputs, holds in (
                ("a : has red a", [1], True), ("a : has red a", [0], False),
                ("a b : link road a b", [0, 1], True), ("a b : link road a b", [1, 0], False),
                ("a b : same a b", [2, 2], True), ("a b : same a b", [2, 1], False),
                ("a b : less a b", [1, 2], True), ("a b : less a b", [2, 1], False), ("a b : less a b", [1, 1], False),
                (": some x has red x", [], True), (": all x has red x", [], False),
                (": count x rest 3 1 has red x", [], True), (": count x most 0 has red x", [], False),
                ("a b : way x y link road x y a b", [0, 2], True), ("a b : way x y link road x y a b", [2, 0], False),
                ("a b : within 1 x y link road x y a b", [0, 2], False),
                ("a b : within 2 x y link road x y a b", [0, 2], True)):
            self.assertIs(truth(store, Question.read(text), inputs), holds, text)
            self.assertIs(truth(store, Question.read(text), tuple(inputs)), holds, text)

    def test_three_names(self):
        store = made(3, [1], [(0, 1), (1, 2)])
        question = Question.read("a b c : and link road a b link road b c")
        for inputs in product(range(3), repeat=3):
            self.assertIs(truth(store, question, inputs), inputs == (0, 1, 2))

    def test_by_name(self):
        question = Question(("a", "b"), WAY)
        self.assertIs(truth(inputs=(0, 1), question=question, store=line(2)), True)

    def test_denied_and_joined(self):
        for store in some_stores():
            for one, two in zip(KINDS, NESTED):
                questions = Question(("a", "b"), one), Question(("a", "b"), two)
                for inputs in pairs(store.size):
                    first, other = (truth(store, question, inputs) for question in questions)
                    self.assertIs(truth(store, questions[0].denied(), inputs), not first)
                    self.assertIs(truth(store, questions[1].denied(), inputs), not other)
                    self.assertIs(truth(store, questions[0] & questions[1], inputs), first and other)
                    self.assertIs(truth(store, questions[0] | questions[1], inputs), first or other)

    def test_no_names(self):
        self.assertIs(truth(Store(1, {}), Question.read(": some x same x x"), []), True)
        self.assertIs(truth(Store(1, {}), Question.read(": some x less x x"), ()), False)

    def test_the_deepest_and_widest(self):
        question = Question.read("a b : way x y way u v or link road u v and less x u less v y x y a b")
        self.assertIs(truth(line(8), question, (0, 7)), True)
        self.assertIs(truth(made(8, [], [(0, 1)]), question, (7, 0)), False)
        question = Question.read(": all x all y all z all u some v same u v")
        self.assertIs(truth(Store(8, {}), question, ()), True)

    def test_a_store_with_more_than_is_asked(self):
        store = Store(2, {"road": (2, [(0, 1)]), "red": (2, [(0, 0)]), "blue": (1, [])})
        self.assertIs(truth(store, Question(("a", "b"), WAY), (0, 1)), True)


class Counts(unittest.TestCase):
    def passes(self, test, number):
        if test[0] == "rest":
            return number % test[1] == test[2]
        return number >= test[1] if test[0] == "least" else number <= test[1]

    def test_each_test_with_each_number(self):
        for test in TESTS:
            question = Question((), ("count", "x", test, ("has", "red", "x")))
            for number in range(9):
                store = made(8, range(number), [])
                self.assertIs(truth(store, question, ()), self.passes(test, number), (test, number))

    def test_bounds_beyond_the_size(self):
        store = made(1, [0], [])
        for test, holds in ((("least", 1), True), (("least", 2), False), (("least", 8), False), (("most", 0), False),
                            (("most", 8), True), (("rest", 8, 1), True), (("rest", 8, 0), False)):
            self.assertIs(truth(store, Question((), ("count", "x", test, ("has", "red", "x"))), ()), holds)


class Ways(unittest.TestCase):
    def check(self, store, distance):
        """Holds ways and within against how many steps are needed, which is None if there is no way."""
        for one, two in pairs(store.size):
            needed = distance(one, two)
            question = Question(("a", "b"), WAY)
            self.assertIs(truth(store, question, (one, two)), needed is not None)
            for steps in range(9):
                holds = needed is not None and needed <= steps
                self.assertIs(truth(store, Question(("a", "b"), within(steps)), (one, two)), holds, (one, two, steps))

    def test_lines(self):
        for size in range(1, 9):
            self.check(line(size), lambda one, two: two - one if two >= one else None)

    def test_rings(self):
        for size in range(1, 9):
            self.check(ring(size), lambda one, two: (two - one) % size)

    def test_without_links(self):
        for size in range(1, 9):
            self.check(made(size, [], []), lambda one, two: 0 if one == two else None)

    def test_links_to_itself_alone(self):
        for size in (1, 2, 8):
            self.check(made(size, [], [(thing, thing) for thing in range(size)]), lambda one, two: 0 if one == two else None)

    def test_all_links(self):
        for size in (1, 2, 8):
            self.check(made(size, [], pairs(size)), lambda one, two: 0 if one == two else 1)

    def test_the_ends_may_be_equal(self):
        for store in (line(3), ring(3), made(3, [], [])):
            for steps in (0, 3):
                question = Question(("a",), ("within", steps, "x", "y", ("link", "road", "x", "y"), "a", "a"))
                for thing in range(3):
                    self.assertIs(truth(store, question, (thing,)), True)


class Unfitting(unittest.TestCase):
    def unfit(self, tables, text, name):
        question = Question.read(text)
        store = Store(2, tables)
        for inputs in ([0] * len(question.names), (0,) * 9, None, "0", (5,), (True,)):
            self.assertEqual(told(raised(truth, store, question, inputs)), ("Unfit", {"name": name}))

    def test_missing_tables(self):
        self.unfit({}, "a : has red a", "red")
        self.unfit({"rad": (1, []), "redd": (1, [])}, "a : has red a", "red")
        self.unfit({}, "a : and has red a link blue a a", "blue")
        self.unfit({"blue": (2, [])}, "a : and has red a link blue a a", "red")
        self.unfit({"blue": (2, [])}, "a : or same a a not count x least 1 has red a", "red")

    def test_other_numbers_of_places(self):
        self.unfit({"red": (2, [])}, "a : has red a", "red")
        self.unfit({"road": (1, [])}, "a : link road a a", "road")
        self.unfit({"red": (1, []), "blue": (1, [])}, "a : and has red a link blue a a", "blue")

    def test_the_first_one_ascending(self):
        self.unfit({"c": (1, [])}, "a : and has d a and link c a a has b a", "b")
        self.unfit({"b": (1, [])}, "a : and has d a and link c a a has b a", "c")
        self.unfit({"b": (1, []), "c": (1, [])}, "a : and has d a and link c a a has b a", "c")
        self.unfit({"b": (1, []), "c": (2, [])}, "a : and has d a and link c a a has b a", "d")

    def test_more_tables_than_a_store_may_have(self):
        text = "a : and has e a and has d a and has c a and has b a has a a"
        self.unfit({name: (1, []) for name in "abcd"}, text, "e")
        self.unfit({name: (1, []) for name in "bcde"}, text, "a")

    def test_tables_that_are_never_looked_at(self):
        self.unfit({}, "a : or same a a has red a", "red")


class Inputs(unittest.TestCase):
    def test_wrong_inputs(self):
        store = made(3, [1], [])
        question = Question.read("a b : or has red a has red b")
        wrong = [(), (0,), (0, 1, 2), (0, 3), (3, 0), (-1, 0), (0, True), (False, 0), ("0", 1), (0, None), (0, (1,)), (0, [1]),
                 ((0, 1),), ([0, 1],), (10 ** 14, 0)]
        for inputs in wrong:
            for given in (inputs, list(inputs)):
                error = raised(truth, store, question, given)
                self.assertEqual(told(error), ("InvalidInputs", {"given": inputs}))
                self.assertIs(type(error.given), tuple)

    def test_no_list(self):
        store = made(3, [1], [])
        for text in ("a : has red a", ": some x has red x"):
            for given in (*ODD_VALUES, 0, 1, "0", "a"):
                if not isinstance(given, (list, tuple)):
                    error = raised(truth, store, Question.read(text), given)
                    self.assertEqual(told(error), ("InvalidInputs", {"given": (given,)}))

    def test_inputs_of_a_question_without_names(self):
        question = Question.read(": some x has red x")
        for inputs in ((0,), (None,), ((),), [[]]):
            error = raised(truth, made(1, [], []), question, inputs)
            self.assertEqual(told(error), ("InvalidInputs", {"given": tuple(inputs)}))

    def test_arguments_are_not_changed(self):
        store, question, inputs = made(3, [1], []), Question.read("a b : or has red a has red b"), [0, 2]
        truth(store, question, inputs)
        self.assertEqual(inputs, [0, 2])
        self.assertEqual(store, made(3, [1], []))
        wrong = [0, [7]]
        error = raised(truth, store, question, wrong)
        wrong[1].append(8)
        self.assertEqual(error.given, (0, [7]))


if __name__ == "__main__":
    unittest.main()
