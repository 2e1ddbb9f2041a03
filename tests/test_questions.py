"""[4], [5] and the interface of questions.py: names, the forms of sayings, and what a question tells."""

import unittest

from helper import ODD_VALUES, raised, told
from oncethrough.questions import Question

HAS = ("has", "red", "a")
BOUND = ("has", "red", "x")
LINK = ("link", "road", "x", "y")

# One good saying of each form, over the names a and b.
GOOD = (
    ("has", "red", "a"),
    ("link", "road", "a", "b"),
    ("same", "a", "b"),
    ("less", "b", "a"),
    ("not", HAS),
    ("and", HAS, ("same", "a", "a")),
    ("or", HAS, ("same", "a", "a")),
    ("some", "x", BOUND),
    ("all", "x", BOUND),
    ("count", "x", ("least", 2), BOUND),
    ("count", "x", ("most", 2), BOUND),
    ("count", "x", ("rest", 3, 1), BOUND),
    ("way", "x", "y", LINK, "a", "b"),
    ("within", 3, "x", "y", LINK, "a", "b"),
)

# What may stand in none of the places of any of these sayings.
WRONG = (*ODD_VALUES, "A", "abcdefg", "a1", 9, -1, ["a"], ("a",), list(HAS), ("has",),
         ("least", 9), ("rest", 2, 2), ["least", 2], ("has", "red"), ("has", "red", "a", "a"), ("hos", "red", "a"))


def deeper(saying):
    """Sayings with this one deep within them."""
    return (("or", ("all", "z", ("not", saying)), HAS), ("way", "z", "w", ("and", HAS, saying), "b", "a"))


def refused(case, names, saying):
    """Checks that a saying is refused, and given as a whole."""
    error = raised(Question, names, saying)
    case.assertEqual(told(error), ("InvalidSaying", {"given": saying}), repr(saying))


class Names(unittest.TestCase):
    def test_names(self):
        for names in ((), ("a",), ("a", "b"), ("c", "b", "a"), ("abcdef", "z"), ("not", "way", "red")):
            question = Question(names, ("some", "x", BOUND))
            self.assertEqual(question.names, names)
            self.assertEqual(Question(list(names), ("some", "x", BOUND)), question)
            self.assertIs(type(Question(list(names), ("some", "x", BOUND)).names), tuple)

    def test_wrong_names(self):
        for names in (("a", "b", "c", "d"), ("a", "a"), ("a", "b", "a"), ("A",), ("",), ("abcdefg",), ("a1",), (1,),
                      ("a", True), ("a", None), (("a",),), ("a", ["b"]), (":",), ("a b",), ("a", ())):
            for given in (names, list(names)):
                error = raised(Question, given, HAS)
                self.assertEqual(told(error), ("InvalidNames", {"given": names}))
                self.assertIs(type(error.given), tuple)

    def test_no_list(self):
        for names in ("a", "", "ab", 1, 0, True, None):
            self.assertEqual(told(raised(Question, names, HAS)), ("InvalidNames", {"given": (names,)}))

    def test_names_come_first(self):
        self.assertEqual(told(raised(Question, ("a", "a"), None))[0], "InvalidNames")
        self.assertEqual(told(raised(Question, 5, HAS))[0], "InvalidNames")

    def test_the_list_is_copied(self):
        names = ["a", "b"]
        question = Question(names, HAS)
        names.append("c")
        self.assertEqual(question.names, ("a", "b"))
        names = ["a", "a"]
        error = raised(Question, names, HAS)
        names.append("c")
        self.assertEqual(error.given, ("a", "a"))


class Sayings(unittest.TestCase):
    def test_good_ones(self):
        for saying in GOOD:
            for good in (saying, *deeper(saying)):
                self.assertEqual(Question(("a", "b"), good).saying, good)

    def test_wrong_items(self):
        for saying in GOOD:
            for at in range(len(saying)):
                for value in WRONG:
                    self.check_wrong((*saying[:at], value, *saying[at + 1:]))

    def check_wrong(self, saying):
        refused(self, ("a", "b"), saying)
        for outer in deeper(saying):
            refused(self, ("a", "b"), outer)

    def test_wrong_numbers_of_items(self):
        for saying in GOOD:
            for at in range(len(saying)):
                self.check_wrong((*saying[:at], *saying[at + 1:]))
            self.check_wrong((*saying, "a"))
            self.check_wrong((*saying, HAS))
            self.check_wrong(("x", *saying))

    def test_lists_are_no_sayings(self):
        for saying in GOOD:
            self.check_wrong(list(saying))
        for test in (["least", 2], ["most", 2], ["rest", 3, 1]):
            self.check_wrong(("count", "x", test, BOUND))

    def test_no_saying(self):
        for value in (*ODD_VALUES, "has red a", "has", 5, ["has", "red", "a"], ("same",), ("same", "a"), ((HAS,),)):
            refused(self, ("a", "b"), value)

    def test_given_is_a_copy(self):
        saying = ["has", ["red"], "a"]
        error = raised(Question, ("a",), saying)
        saying[1].append("blue")
        self.assertEqual(error.given, ["has", ["red"], "a"])

    def test_names_out_of_scope(self):
        for saying in (("has", "red", "c"), ("link", "road", "a", "c"), ("link", "road", "c", "a"), ("same", "c", "a"),
                       ("same", "a", "c"), ("less", "c", "a"), ("less", "a", "c"), ("way", "x", "y", LINK, "c", "b"),
                       ("way", "x", "y", LINK, "a", "c"), ("within", 1, "x", "y", LINK, "c", "b"),
                       ("within", 1, "x", "y", LINK, "a", "c"), ("way", "x", "y", LINK, "x", "b"),
                       ("way", "x", "y", LINK, "a", "y"), ("way", "x", "y", LINK, "a", "x"),
                       ("within", 1, "x", "y", LINK, "y", "b"), ("within", 1, "x", "y", LINK, "a", "x"),
                       ("some", "x", ("has", "red", "y")), ("and", ("some", "x", BOUND), BOUND),
                       ("or", BOUND, ("some", "x", BOUND)), ("way", "x", "y", ("link", "road", "x", "u"), "a", "b")):
            self.check_wrong(saying)
        refused(self, (), HAS)
        refused(self, ("b",), HAS)

    def test_names_in_scope_already(self):
        for saying in (("some", "a", HAS), ("all", "b", HAS), ("count", "a", ("least", 1), HAS),
                       ("some", "x", ("all", "x", BOUND)), ("way", "a", "y", HAS, "a", "b"), ("way", "x", "b", HAS, "a", "b"),
                       ("way", "x", "x", BOUND, "a", "b"), ("within", 1, "x", "x", BOUND, "a", "b"),
                       ("within", 1, "a", "y", HAS, "a", "b"), ("within", 1, "x", "b", HAS, "a", "b"),
                       ("way", "x", "y", ("some", "x", BOUND), "a", "b"), ("way", "x", "y", ("some", "y", BOUND), "a", "b"),
                       ("count", "x", ("most", 1), ("count", "x", ("most", 1), BOUND))):
            self.check_wrong(saying)

    def test_names_bound_again_elsewhere(self):
        for saying in (("and", ("some", "x", BOUND), ("all", "x", BOUND)),
                       ("or", ("way", "x", "y", LINK, "a", "b"), ("way", "y", "x", LINK, "b", "a")),
                       ("link", "road", "a", "a"), ("same", "a", "a"), ("way", "x", "y", HAS, "a", "a"),
                       ("has", "a", "a"), ("some", "has", ("has", "has", "has"))):
            self.assertEqual(Question(("a", "b"), saying).saying, saying)

    def test_the_way_reaches_its_outer_names(self):
        saying = ("some", "c", ("way", "x", "y", ("and", LINK, ("less", "c", "y")), "c", "a"))
        self.assertEqual(Question(("a",), saying).saying, saying)

    def test_tests(self):
        good = [("least", k) for k in range(9)] + [("most", k) for k in range(9)]
        good += [("rest", m, r) for m in range(2, 9) for r in range(m)]
        for test in good:
            self.assertEqual(Question((), ("count", "x", test, BOUND)).saying[2], test)
        wrong = [("least", 9), ("most", 9), ("least", -1), ("most", -1), ("least", True), ("most", False), ("least", "1"),
                 ("least", None), ("least",), ("most",), ("rest",), ("rest", 2), ("rest", 3, 1, 0), ("least", 1, 2),
                 ("most", 1, 2), ("rest", 1, 0), ("rest", 9, 0), ("rest", 0, 0), ("rest", True, 0), ("rest", 2, True),
                 ("rest", 2, False), ("rest", "3", 1), ("rest", 3, "1"), ("rest", 3, -1), ("exact", 2), ("", 2),
                 (1, 2), ("least", (1,)), ["least", 1], "least", (), None, ("rest", (), 1), ("Least", 2), ("least", 3, 1), ("most", 3, 1), ("exact", 3, 1),
                 (None, 3, 1), ("Rest", 3, 1), ("rest", 3, 1, 1)]
        wrong += [("rest", m, m) for m in range(2, 9)]
        for test in wrong:
            self.check_wrong(("count", "x", test, BOUND))

    def test_steps(self):
        for steps in range(9):
            saying = ("within", steps, "x", "y", LINK, "a", "b")
            self.assertEqual(Question(("a", "b"), saying).saying, saying)
        for steps in (-1, 9, True, False, None, "3", (), (3,)):
            self.check_wrong(("within", steps, "x", "y", LINK, "a", "b"))


class Telling(unittest.TestCase):
    def test_by_name(self):
        question = Question(saying=HAS, names=("a",))
        self.assertEqual(question, Question(("a",), HAS))

    def test_forms(self):
        counts = (1, 1, 1, 1, 2, 3, 3, 2, 2, 2, 2, 2, 2, 2)
        for saying, forms in zip(GOOD, counts, strict=True):
            self.assertEqual(Question(("a", "b"), saying).forms, forms)

    def test_tables(self):
        saying = ("and", ("link", "road", "a", "b"), ("or", HAS, ("not", ("and", ("has", "blue", "a"), HAS))))
        question = Question(("a", "b"), saying)
        self.assertEqual(question.tables(), {"road": 2, "red": 1, "blue": 1})
        question.tables()["green"] = 1
        self.assertEqual(question.tables(), {"road": 2, "red": 1, "blue": 1})
        self.assertEqual(Question(("a",), ("same", "a", "a")).tables(), {})
        for saying in GOOD[7:]:
            places = {"road": 2} if saying[0] in ("way", "within") else {"red": 1}
            self.assertEqual(Question(("a", "b"), saying).tables(), places)

    def test_grows(self):
        shrinks = ("not", "count")
        for saying in GOOD:
            self.assertIs(Question(("a", "b"), saying).grows(), saying[0] not in shrinks)
            for outer in (("or", HAS, saying), ("way", "z", "w", saying, "a", "b"), ("some", "z", ("and", saying, HAS))):
                self.assertIs(Question(("a", "b"), outer).grows(), saying[0] not in shrinks)
        self.assertIs(Question(("a",), ("not", ("not", HAS))).grows(), False)

    def test_equal(self):
        question = Question(("a", "b"), HAS)
        self.assertTrue(question == Question(["a", "b"], ("has", "red", "a")))
        self.assertFalse(question != Question(["a", "b"], ("has", "red", "a")))
        for other in (Question(("b", "a"), HAS), Question(("a",), HAS), Question(("a", "b"), ("has", "red", "b")),
                      Question(("a", "b"), ("has", "blue", "a")), Question(("a", "b"), ("not", HAS))):
            self.assertFalse(question == other)
            self.assertTrue(question != other)
        for value in (*ODD_VALUES, HAS, ("a", "b"), question.text(), [question], (question,), {}, object()):
            self.assertFalse(question == value)
            self.assertFalse(value == question)

    def test_repr(self):
        self.assertEqual(repr(Question(("a", "b"), HAS)), "a b : has red a")
        self.assertEqual(repr(Question((), ("some", "x", BOUND))), ": some x has red x")


class Joining(unittest.TestCase):
    def test_denied(self):
        question = Question(("a", "b"), HAS)
        self.assertEqual(question.denied(), Question(("a", "b"), ("not", HAS)))
        self.assertEqual(question.denied().denied(), question)
        self.assertEqual(Question(("a",), ("not", ("not", HAS))).denied(), Question(("a",), ("not", HAS)))
        self.assertEqual(question, Question(("a", "b"), HAS))

    def test_and_or(self):
        one = Question(("a", "b"), HAS)
        two = Question(("a", "b"), ("less", "a", "b"))
        self.assertEqual(one & two, Question(("a", "b"), ("and", HAS, ("less", "a", "b"))))
        self.assertEqual(two | one, Question(("a", "b"), ("or", ("less", "a", "b"), HAS)))
        self.assertEqual((one & two).forms, 3)
        self.assertEqual(one, Question(("a", "b"), HAS))

    def test_unequal_names(self):
        one = Question(("a", "b"), HAS)
        for names in (("b", "a"), ("a",), ("a", "b", "c"), ("a", "c")):
            other = Question(names, HAS)
            for call in (lambda: one & other, lambda: one | other):
                error = raised(call)
                self.assertEqual(told(error), ("InvalidNames", {"given": names}))


if __name__ == "__main__":
    unittest.main()
