"""[6]: the text of a question, there and back, and texts that are refused."""

import unittest

from helper import raised, told
from oncethrough.questions import Question

# Names, a saying and its text.
TEXTS = (
    (("a",), ("has", "red", "a"), "a : has red a"),
    (("a", "b"), ("link", "road", "a", "b"), "a b : link road a b"),
    (("a", "b", "c"), ("same", "c", "a"), "a b c : same c a"),
    (("b", "a"), ("less", "a", "b"), "b a : less a b"),
    (("a",), ("not", ("has", "red", "a")), "a : not has red a"),
    (("a",), ("and", ("has", "red", "a"), ("not", ("same", "a", "a"))), "a : and has red a not same a a"),
    (("a",), ("or", ("not", ("same", "a", "a")), ("has", "red", "a")), "a : or not same a a has red a"),
    ((), ("some", "x", ("has", "red", "x")), ": some x has red x"),
    ((), ("all", "x", ("has", "red", "x")), ": all x has red x"),
    ((), ("count", "x", ("least", 0), ("has", "red", "x")), ": count x least 0 has red x"),
    ((), ("count", "x", ("most", 8), ("has", "red", "x")), ": count x most 8 has red x"),
    ((), ("count", "x", ("rest", 3, 1), ("has", "red", "x")), ": count x rest 3 1 has red x"),
    (("a", "b"), ("way", "x", "y", ("link", "road", "x", "y"), "a", "b"), "a b : way x y link road x y a b"),
    (("a", "b"), ("within", 4, "x", "y", ("link", "road", "x", "y"), "a", "b"), "a b : within 4 x y link road x y a b"),
    (("not", "has"), ("some", "some", ("has", "has", "some")), "not has : some some has has some"),
    (("abcdef",), ("count", "x", ("rest", 8, 7), ("within", 0, "y", "z", ("less", "y", "z"), "x", "abcdef")),
     "abcdef : count x rest 8 7 within 0 y z less y z x abcdef"),
)

SPOILT = (
    "", " ", ":", ": ", " :", "a", "a :", "a : ", "has red a", "a: has red a", "a :has red a", "a has red a",
    "a : has red b", "a : has red", "a : has a", "a : has red a a", "a : has red a ", " a : has red a", "a  : has red a",
    "a :  has red a", "a : has  red a", "a : has red  a", "a : : has red a", "a : has : a", "a : has red a :",
    "a : has red a\n", "a\n: has red a", "a : has red\na", "A : has red A", "a : Has red a", "a : has Red a",
    "a : has red A", "a : hass red a", "a b c d : same a a", "a a : same a a", "abcdefg : same abcdefg abcdefg",
    "a1 : same a1 a1", "a : same a", "a : not", "a : not has red a has red a", "a : and has red a", "some x has red x",
    ": some has red x", ": some x", ": some x has x", ": some x red x", "x : some x has red x", ": x some has red x",
    ": some x y has red x", ": count x least has red x", ": count x 1 has red x", ": count x least 01 has red x",
    ": count x least 9 has red x", ": count x least -1 has red x", ": count x least +1 has red x",
    ": count x least 1 1 has red x", ": count x rest 3 has red x", ": count x rest 3 3 has red x",
    ": count x rest 03 1 has red x", ": count x rest 3 01 has red x", ": count x rest 3 1 1 has red x",
    ": count x rest 1 0 has red x", ": count x exact 1 has red x", ": count least 1 x has red x", ": count x least",
    ": count x rest 3", ": count x", ": count", ": count x least " + "9" * 5000 + " has red x",
    ": count x least 0000000000000001 has red x", ": count x least 1_0 has red x", ": count x least 1.0 has red x",
    "a b : way x y link road x y a", "a b : way x y link road x y a b a", "a b : way x x link road x x a b",
    "a b : way a y link road a y a b", "a b : way x y link road x y x b", "a b : within x y link road x y a b",
    "a b : within 9 x y link road x y a b", "a b : within 04 x y link road x y a b", "a b : within -1 x y link road x y a b",
    "a b : within 1 1 x y link road x y a b", "a b : within four x y link road x y a b", "a : and has red a link red a a",
    "a b : way 4 x y link road x y a b", "a : read a", "a : table red 1", "a,b : same a b", "a b : same a, b",
    "('has', 'red', 'a')", "a : (has red a)",
)


class Texts(unittest.TestCase):
    def test_there_and_back(self):
        for names, saying, text in TEXTS:
            question = Question(names, saying)
            self.assertEqual(question.text(), text)
            self.assertEqual(repr(question), text)
            self.assertEqual(Question.read(text), question)
            self.assertEqual(question.read(text=text), question)

    def test_the_words_of_the_document(self):
        self.assertEqual(Question((), ("count", "x", ("rest", 3, 1), ("has", "red", "x"))).text(),
                         ": count x rest 3 1 has red x")

    def test_a_question_at_its_limits(self):
        text = "a b c : not not not not not has red a"
        self.assertEqual(Question.read(text).text(), text)
        text = "a b c : some x some y some z link road x z"
        self.assertEqual(Question.read(text).text(), text)
        text = "a : not and and same a a same a a and and same a a same a a and same a a same a a"
        self.assertEqual((Question.read(text).text(), Question.read(text).forms), (text, 12))


class NoTexts(unittest.TestCase):
    def refused(self, text):
        self.assertEqual(told(raised(Question.read, text)), ("InvalidText", {"line": 0}), repr(text)[:200])

    def test_spoilt_texts(self):
        for text in SPOILT:
            self.refused(text)

    def test_words_left_out_or_doubled(self):
        for _, _, text in TEXTS:
            words = text.split(" ")
            for at in range(len(words)):
                self.check_other([*words[:at], *words[at + 1:]])
                self.check_other([*words[:at + 1], *words[at:]])
                self.check_other([*words[:at], "", *words[at:]])
                for word in ("q", "Q", "9", "has", ":", "", "least"):
                    self.check_other([*words[:at], word, *words[at + 1:]])
                if at > 0:
                    self.check_other([*words[:at - 1], words[at], words[at - 1], *words[at + 1:]])

    def check_other(self, words):
        """A text is refused, or it is the text of the question that is read from it."""
        text = " ".join(words)
        try:
            question = Question.read(text)
        except ValueError as error:
            self.assertEqual(told(error), ("InvalidText", {"line": 0}))
        else:
            self.assertEqual(question.text(), text)

    def test_blanks(self):
        for _, _, text in TEXTS:
            for at in range(len(text) + 1):
                self.refused(text[:at] + "\n" + text[at:])
                if text[at - 1:at] in (" ", "") or text[at:at + 1] in (" ", ""):
                    self.refused(text[:at] + " " + text[at:])
                if text[at:at + 1] == " ":
                    self.check_other([text[:at] + text[at + 1:]])

    def test_beyond_the_limits(self):
        for text in ("a : not not not not not not has red a", "a b c : some w some x some y some z link road x z",
                     "a : not not and and same a a same a a and and same a a same a a and same a a same a a"):
            self.refused(text)

    def test_nested_a_thousand_deep(self):
        for word in ("not", "and", "or same a a", "some x", "way x y"):
            for many in (7, 100, 1000):
                self.refused(f"a : {' '.join([word] * many)} has red a")
                self.refused(f"a : {' '.join([word] * many)}")
        self.refused("a : " + "not " * 4900 + "same a a")

    def test_other_values(self):
        for value in (None, 3, True, (), ("a : has red a",), ["a : has red a"]):
            self.refused(value)


if __name__ == "__main__":
    unittest.main()
