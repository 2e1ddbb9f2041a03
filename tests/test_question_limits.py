"""[5]: the limits of a question, and each one overstepped by one, also by denied, & and |."""

import unittest

from helper import raised, told
from oncethrough.questions import Question

SAME = ("same", "a", "a")


def chain(forms):
    """A saying with an odd number of forms, as flat as it can be."""
    if forms == 1:
        return SAME
    left = (forms - 1) // 2
    left += 1 - left % 2
    return ("and", chain(left), chain(forms - 1 - left))


def deep(many, inner=SAME):
    """A saying with so many sayings not around it."""
    return inner if many == 0 else ("not", deep(many - 1, inner))


def binders(names, inner):
    return inner if not names else ("some", names[0], binders(names[1:], inner))


class Limits(unittest.TestCase):
    def accepted(self, names, saying):
        question = Question(names, saying)
        self.assertEqual(question.saying, saying)
        return question

    def refused(self, call, saying):
        self.assertEqual(told(raised(call)), ("InvalidSaying", {"given": saying}))

    def test_forms(self):
        self.assertEqual(self.accepted(("a",), chain(11)).forms, 11)
        twelve = ("not", chain(11))
        self.assertEqual(self.accepted(("a",), twelve).forms, 12)
        for saying in (("not", twelve), chain(13), ("and", SAME, chain(11)), ("or", chain(5), chain(7)), chain(15)):
            self.refused(lambda: Question(("a",), saying), saying)

    def test_tests_are_no_sayings(self):
        saying = ("count", "x", ("rest", 2, 1), ("and", chain(9), ("same", "x", "x")))
        self.assertEqual(self.accepted(("a",), saying).forms, 12)

    def test_depth(self):
        self.assertEqual(self.accepted(("a",), deep(5)).forms, 6)
        for many in (6, 7, 8, 20, 60):
            self.refused(lambda: Question(("a",), deep(many)), deep(many))
        for form in (("and", SAME, deep(4)), ("or", deep(4), SAME), ("some", "x", deep(4)), ("all", "x", deep(4)),
                     ("way", "x", "y", deep(4), "a", "a"), ("within", 8, "x", "y", deep(4), "a", "a"),
                     ("count", "x", ("least", 0), deep(4))):
            self.accepted(("a",), form)
            beyond = (*form[:-1], ("not", form[-1])) if form[0] in ("and", "some", "all", "count") else ("not", form)
            self.refused(lambda: Question(("a",), beyond), beyond)

    def test_a_tree_that_is_deep_on_both_sides(self):
        both = SAME
        for _ in range(40):
            both = ("and", both, both)
        self.assertEqual(raised(Question, ("a",), ("not", chain(13))).code, "InvalidSaying")
        self.assertEqual(raised(Question, ("a",), deep(30, chain(13))).code, "InvalidSaying")

    def test_names_in_scope(self):
        self.accepted(("a", "b", "c"), binders("xyz", SAME))
        self.accepted(("a",), binders("vwxyz", SAME))
        self.accepted(("a", "b"), binders("xy", ("way", "v", "w", SAME, "a", "b")))
        self.accepted(("a", "b", "c"), ("and", binders("xyz", SAME), binders("uvw", SAME)))
        for names, saying in ((("a", "b", "c"), binders("wxyz", SAME)),
                              (("a", "b"), binders("vwxyz", SAME)),
                              (("a", "b", "c"), binders("xy", ("way", "v", "w", SAME, "a", "b"))),
                              (("a", "b", "c"), binders("xy", ("within", 2, "v", "w", SAME, "a", "b"))),
                              (("a", "b", "c"), binders("xyz", ("count", "w", ("least", 1), SAME))),
                              (("a", "b", "c"), binders("xyz", ("all", "w", SAME)))):
            self.refused(lambda: Question(names, saying), saying)

    def test_places(self):
        self.accepted(("a",), ("and", ("has", "red", "a"), ("not", ("has", "red", "a"))))
        self.accepted(("a",), ("and", ("link", "red", "a", "a"), ("has", "road", "a")))
        for saying in (("and", ("has", "red", "a"), ("link", "red", "a", "a")),
                       ("or", ("link", "red", "a", "a"), ("some", "x", ("not", ("has", "red", "x")))),
                       ("way", "x", "y", ("or", ("has", "red", "x"), ("link", "red", "x", "y")), "a", "a")):
            self.refused(lambda: Question(("a",), saying), saying)


class JoinedLimits(unittest.TestCase):
    def refused(self, call, saying):
        self.assertEqual(told(raised(call)), ("InvalidSaying", {"given": saying}))

    def test_denied(self):
        most = Question(("a",), ("not", chain(11)))
        self.assertEqual(most.denied().saying, chain(11))
        self.assertEqual(Question(("a",), chain(11)).denied(), most)
        twelve = ("and", ("not", SAME), chain(9))
        self.refused(Question(("a",), twelve).denied, ("not", twelve))
        self.assertEqual(Question(("a",), deep(4)).denied().saying, deep(3))
        six = ("and", SAME, deep(4))
        self.refused(Question(("a",), six).denied, ("not", six))
        five = ("and", SAME, deep(3))
        self.assertEqual(Question(("a",), five).denied().saying, ("not", five))

    def test_forms_of_joined_questions(self):
        one, five, seven = (Question(("a",), chain(forms)) for forms in (1, 5, 7))
        six = Question(("a",), ("not", chain(5)))
        self.assertEqual((five & six).forms, 12)
        self.assertEqual((six | five).forms, 12)
        self.refused(lambda: six & six, ("and", six.saying, six.saying))
        self.refused(lambda: seven | five, ("or", seven.saying, five.saying))
        self.refused(lambda: one & Question(("a",), chain(11)), ("and", one.saying, chain(11)))

    def test_depth_of_joined_questions(self):
        one, five, six = (Question(("a",), deep(many)) for many in (0, 4, 5))
        self.assertEqual((one & five).saying, ("and", SAME, deep(4)))
        self.refused(lambda: one & six, ("and", SAME, deep(5)))
        self.refused(lambda: six | one, ("or", deep(5), SAME))

    def test_places_of_joined_questions(self):
        one = Question(("a",), ("has", "red", "a"))
        two = Question(("a",), ("link", "red", "a", "a"))
        self.refused(lambda: one & two, ("and", one.saying, two.saying))
        self.refused(lambda: two | one, ("or", two.saying, one.saying))

    def test_names_come_first(self):
        one = Question(("a",), chain(11))
        two = Question(("a", "b"), chain(11))
        for call in (lambda: one & two, lambda: one | two):
            self.assertEqual(told(raised(call)), ("InvalidNames", {"given": ("a", "b")}))


if __name__ == "__main__":
    unittest.main()
