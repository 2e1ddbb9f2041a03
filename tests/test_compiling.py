"""[12], and [8] and [9] for compiled readers."""

import unittest
from itertools import product

import second
from helper import mutants, plain, raised, told
from oncethrough.compiling import compiled
from oncethrough.errors import InvalidSaying, TooMany
from oncethrough.exploring import counted_papers, numbered, place_of, shortest
from oncethrough.papers import is_paper, looks_of
from oncethrough.questions import Question
from oncethrough.readings import Reading, Recorded, verdict
from oncethrough.stores import Store
from oncethrough.weights import Weigher
from samples import KINDS, NESTED, TESTS, every_small_store, line, made, pairs, ring, some_stores

# Sayings of 12 tuples, nested 6 deep, with 6 names in scope, or with four tables.
LARGE = (
    "a b c : and or and or has red a has red b link road a b has red b not and link road b c has red c",
    "a b c : some x all y some z or and link road x y link road y z and link road z a link road b c",
    "a b c : count x rest 3 2 count y most 2 count z least 1 or link road x y and link road z a link road b c",
    "a b : way x y way u v and link road u v or less u v has red v x y a b",
    "a b : way x y some u some v and link road x u and link road u v link road v y a b",
    "a : all x or not has d x or not has c x or not has b x link road a x",
    "a : some x and has d x and has c x and has b x link road x a",
    "a b : within 2 x y not within 1 u v or link road u v same u v x y a b",
    ": count x rest 8 3 count y rest 7 1 count z rest 2 0 count u least 1 link road x u",
    "a b c : way x y count z most 1 and link road x z link road z y a b",
    "a b : or way x y and link road x y not has red y a b not within 8 x y or link road y x not same x x b a",
    "a b : not not not not not has red a",
)


def stores_with(question):
    """Some stores that the question fits, with rows in all its tables."""
    tables = question.tables()
    for store in some_stores()[1::2] + every_small_store()[3::13]:
        rows = {2: store.rows_of("road"), 1: store.rows_of("red")}
        more = {name: (tables[name], rows[tables[name]]) for name in tables}
        yield Store(store.size, {**{name: (store.places(name), store.rows_of(name)) for name in store.tables()
                                    if len(more) <= 2}, **more})


def some_inputs(question, store):
    every = list(product(range(store.size), repeat=len(question.names)))
    return every[::max(1, len(every) // 3)]


class Bounds(unittest.TestCase):
    def check(self, question):
        reader = compiled(question)
        self.assertEqual(reader.inputs, len(question.names))
        self.assertLessEqual(len(reader.cells), 8 + 12 * question.forms)
        self.assertLessEqual(len(reader), 10000)
        self.assertEqual(compiled(question), reader)
        self.assertEqual(compiled(Question(list(question.names), question.saying)), reader)
        self.assertTrue(set(reader.tables().items()) <= set(question.tables().items()))
        return reader

    def test_samples(self):
        for saying in KINDS + NESTED:
            self.check(Question(("a", "b"), saying))
            self.check(Question(("a", "b"), saying).denied())

    def test_large_questions(self):
        for text in LARGE:
            self.check(Question.read(text))
            self.check_denied(Question.read(text))

    def check_denied(self, question):
        try:
            denied = question.denied()
        except InvalidSaying:
            return
        self.check(denied)

    def test_one_form_within_the_other_to_the_depth_6(self):
        kinds = {"way": "way {0} {1} {{}} a b", "within": "within 8 {0} {1} {{}} a b", "count": "count {0} rest 8 7 {{}}",
                 "some": "some {0} {{}}", "all": "all {0} {{}}", "not": "not {{}}", "and": "and same a b {{}}",
                 "or": "or {{}} has red a"}
        letters = "cdefghijklmn"
        for words in product(kinds, repeat=2):
            for many in range(6):
                text, bound = "{}", 2
                for at in range(many):
                    word = words[at % 2]
                    new = {"way": 2, "within": 2, "count": 1, "some": 1, "all": 1}.get(word, 0)
                    if bound + new > 6:
                        word, new = "not", 0
                    text = text.format(kinds[word].format(*letters[bound:bound + 2]))
                    bound += new
                self.check(Question.read("a b : " + text.format("link road a b")))
                self.check(Question.read("a b : not " + text.format("less a b")) if many < 5
                           else Question.read("a b : " + text.format("less a b")))

    def test_names_do_not_matter(self):
        one = Question.read("a b : some x and link road a x way u v link road u v x b")
        other = Question.read("q p : some abcdef and link road q abcdef way a b link road a b abcdef p")
        self.assertEqual(compiled(one), compiled(other))
        self.assertEqual(compiled(question=one).inputs, 2)


class AgainstPapers(unittest.TestCase):
    def check_lists(self, store, question, inputs, lists):
        reader = compiled(question)
        for marks in lists:
            self.assertIs(verdict(reader, store, inputs, marks), is_paper(store, question, inputs, marks),
                          (question, store.page(), inputs, marks))

    def test_all_short_lists(self):
        for store in every_small_store()[::5]:
            lists = [list(marks) for length in range(5) for marks in product(range(store.size + 1), repeat=length)]
            for saying in KINDS + NESTED:
                for question in (Question(("a", "b"), saying), Question(("a", "b"), saying).denied()):
                    for inputs in ((0, store.size - 1), (store.size - 1, 0))[:store.size]:
                        self.check_lists(store, question, inputs, lists)

    def test_first_papers_and_changed_ones(self):
        for store in some_stores():
            for saying in KINDS + NESTED:
                for inputs in ((0, 2), (1, 1), (2, 1)):
                    question = Question(("a", "b"), saying)
                    yes = Weigher(store, question).least(*inputs) is not None
                    kept, left = (question, question.denied()) if yes else (question.denied(), question)
                    marks = Weigher(store, question).first(*inputs, yes=yes)
                    self.check_changed(store, kept, left, inputs, marks)

    def check_changed(self, store, kept, left, inputs, marks):
        reader, other = compiled(kept), compiled(left)
        self.assertIs(verdict(reader, store, inputs, marks), True, (kept, store.page(), inputs))
        self.assertIs(verdict(other, store, inputs, marks), False)
        changed = mutants(marks, store.size)
        for spoilt in changed[::1 + len(changed) // 60]:
            self.assertIs(verdict(reader, store, inputs, spoilt), is_paper(store, kept, inputs, spoilt),
                          (kept, store.page(), inputs, spoilt))
            self.assertIs(verdict(other, store, inputs, spoilt), False)

    def test_large_questions(self):
        for text in LARGE:
            question = Question.read(text)
            for store in stores_with(question):
                for inputs in some_inputs(question, store):
                    weigher = Weigher(store, question)
                    reader = compiled(question)
                    if weigher.least(*inputs) is None:
                        self.check_no_paper(reader, store, inputs, weigher)
                    elif weigher.least(*inputs) <= 5000:
                        marks = weigher.first(*inputs)
                        self.assertIs(verdict(reader, store, inputs, marks), True, (text, store.page(), inputs))
                        self.check_some_changed(reader, question, store, inputs, marks)

    def check_no_paper(self, reader, store, inputs, weigher):
        """Neither the first no paper nor anything near it is accepted."""
        if weigher.least(*inputs, yes=False) <= 5000:
            marks = weigher.first(*inputs, yes=False)
            changed = mutants(marks, store.size) if len(marks) < 200 else []
            for spoilt in [marks, marks[1:], [0, *marks], [1, *marks], *changed[::1 + len(changed) // 20]]:
                self.assertIs(verdict(reader, store, inputs, spoilt), False)

    def check_some_changed(self, reader, question, store, inputs, marks):
        places = range(0, len(marks), 1 + len(marks) // 6)
        changed = [[*marks, 0], marks[:-1]] if marks else [[0]]
        for at in places:
            changed += [[*marks[:at], mark, *marks[at + 1:]] for mark in (0, 1, 2, store.size) if mark != marks[at]]
            changed += [[*marks[:at], *marks[at + 1:]], [*marks[:at], marks[at], *marks[at:]]]
        for spoilt in changed:
            self.assertIs(verdict(reader, store, inputs, spoilt), is_paper(store, question, inputs, spoilt), (question, spoilt))

    def test_every_test_of_a_count(self):
        for test in TESTS:
            words = " ".join(str(item) for item in test)
            for text in (f": count x {words} has red x", f": not count x {words} has red x"):
                question = Question.read(text)
                reader = compiled(question)
                for size in (1, 2, 5, 8):
                    for many in range(size + 1):
                        store = made(size, range(many), [])
                        marks = [1] * many + [0] * (size - many)
                        holds = second.truth(plain(store), question.saying, {})
                        self.assertIs(verdict(reader, store, (), marks), holds, (text, size, many))
                        self.assertIs(verdict(reader, store, (), marks[::-1]), holds and many in (0, size))
                        self.assertIs(verdict(reader, store, (), [*marks, 0]), False)

    def test_every_number_of_steps_within(self):
        for steps in range(9):
            question = Question.read(f"a b : within {steps} x y link road x y a b")
            reader, denied = compiled(question), compiled(question.denied())
            for size in (1, 2, 5, 8):
                for store in (line(size), ring(size)):
                    for end in range(size):
                        weigher = Weigher(store, question)
                        yes = weigher.least(0, end) is not None
                        marks = weigher.first(0, end, yes=yes)
                        self.assertIs(verdict(reader, store, (0, end), marks), yes)
                        self.assertIs(verdict(denied, store, (0, end), marks), not yes)
                        self.assertIs(verdict(denied if yes else reader, store, (0, end), marks[1:]), False)

    def test_traces_that_go_round(self):
        reader = compiled(Question.read("a b : way x y link road x y a b"))
        marks = [1, 1, 1, 2, 1, 0] * 200
        for end in range(3):
            for tail in ([0], [1, 1, 0], [1, 1, 1, 2, 0], [], [1, 2, 0]):
                self.assertIs(verdict(reader, ring(3), (0, end), [*marks, *tail]),
                              tail == [mark for thing in range(1, end + 1) for mark in (1, thing)] + [0])


class OneReaderForAllStores(unittest.TestCase):
    def test_stores_by_turns(self):
        for text in ("a b : way x y link road x y a b", "a b : not way x y link road x y a b", "a b : all x link road a x",
                     "a b : not within 2 x y link road x y a b", "a b : count x rest 3 1 link road a x",
                     "a b : some x and less a x link road x b"):
            question = Question.read(text)
            reader = compiled(question)
            kept = (reader.cells, reader.rows)
            for size in (1, 8, 2, 7, 3, 6, 4, 5, 1, 8):
                for store in (line(size), ring(size), made(size, [], pairs(size)), made(size, [], [])):
                    for inputs in ((0, size - 1), (size - 1, 0), (0, 0)):
                        weigher = Weigher(store, question)
                        if weigher.least(*inputs) is not None and weigher.least(*inputs) <= 1000:
                            marks = weigher.first(*inputs)
                            self.assertIs(verdict(reader, store, inputs, marks), True, (text, store.page(), inputs))
                            self.assertIs(verdict(reader, store, inputs, [*marks, 0]), False)
                        else:
                            for marks in ([], [0], [1], [0, 0], [1, 0, 0]):
                                self.assertIs(verdict(reader, store, inputs, marks), False)
            self.assertEqual((reader.cells, reader.rows), kept)

    def test_other_tables_in_the_store(self):
        question = Question.read("a : has red a")
        reader = compiled(question)
        store = Store(2, {"red": (1, [(1,)]), "blue": (2, [(0, 1)]), "a": (1, [])})
        self.assertIs(verdict(reader, store, (1,), []), True)
        self.assertIs(verdict(reader, store, (0,), []), False)
        self.assertEqual(told(raised(verdict, reader, Store(2, {"red": (2, [])}), (1,), [])), ("Unfit", {"name": "red"}))


class WithWeighers(unittest.TestCase):
    def test_what_they_tell_is_the_same(self):
        asked = 0
        for store in [*some_stores()[:6], *every_small_store()[2::11]]:
            for saying in KINDS + NESTED:
                for question in (Question(("a", "b"), saying), Question(("a", "b"), saying).denied()):
                    asked += self.check_same(store, question, (0, store.size - 1))
        self.assertGreater(asked, 800)

    def check_same(self, store, question, inputs):
        reader, weigher = compiled(question), Weigher(store, question)
        try:
            found = shortest(reader, store, inputs)
        except TooMany:
            return 0
        least = weigher.least(*inputs)
        self.assertEqual(found, None if least is None else weigher.first(*inputs), (question, store.page()))
        self.assertEqual(counted_papers(reader, store, inputs, most=25), weigher.counted(*inputs, most=25))
        if least is not None and least <= 40:
            self.assertEqual(place_of(reader, store, inputs, found), 0)
            self.assertEqual(numbered(reader, store, inputs, least, 0), found)
        return 1

    def test_no_paper_where_the_saying_does_not_hold(self):
        for store in some_stores()[:6]:
            for saying in KINDS + NESTED[:8]:
                for question in (Question(("a", "b"), saying), Question(("a", "b"), saying).denied()):
                    for inputs in ((0, 2), (2, 0)):
                        holds = second.truth(plain(store), question.saying, dict(zip("ab", inputs)))
                        self.assertIs(shortest(compiled(question), store, inputs) is not None, holds)


class LooksOfCompiledReaders(unittest.TestCase):
    def test_all_looks_of_the_paper_are_seen(self):
        for store in some_stores():
            for saying in KINDS + NESTED:
                question = Question(("a", "b"), saying)
                for each, yes in ((question, True), (question.denied(), False)):
                    weigher = Weigher(store, question)
                    if weigher.least(0, 2, yes=yes) is not None:
                        marks = weigher.first(0, 2, yes=yes)
                        reading = Recorded(compiled(each), store, (0, 2))
                        self.assertEqual(reading.put(*marks), "done")
                        self.assertEqual(reading.seen(), looks_of(store, each, (0, 2), marks))

    def test_an_empty_paper(self):
        reading = Reading(compiled(Question.read(": all x some y same x x").denied().denied()), ring(2), ())
        self.assertEqual(reading.state, "waits")
        self.assertEqual(Reading(compiled(Question.read(": all x same x x")), ring(8), ()).state, "done")
        self.assertEqual(Reading(compiled(Question.read(": some x less x x")), ring(8), ()).state, "waits")
        self.assertEqual(Reading(compiled(Question.read(": not some x less x x")), ring(8), ()).state, "done")
        self.assertEqual(Reading(compiled(Question.read("a : less a a")), ring(8), (3,)).state, "refused")


if __name__ == "__main__":
    unittest.main()
