"""[7], [9] and the interface of weights.py: least lengths, numbers of papers, first papers."""

import unittest
from itertools import product

import second
from helper import ODD_VALUES, plain, raised, told
from oncethrough.papers import is_paper
from oncethrough.questions import Question
from oncethrough.stores import Store
from oncethrough.weights import Weigher
from samples import KINDS, NESTED, every_small_store, line, made, pairs, ring, some_stores

WAY = Question.read("a b : way x y link road x y a b")
EXAMPLE = made(3, [], [(0, 1)])
MARKS = [1, 0, 1, 1, 1, 0, 0, 0, 1, 0, 1, 1, 1, 0, 0, 0, 1, 1, 0, 0, 1, 1, 0]

# In a line of seven things beside one that stands alone, the no papers of this have at least 5000 marks.
LONG = ("or some x way v w link road v w a b or some x within 2 v w link road v w a b "
        "{}count x least 1 within 1 v w link road v w a b")
LONG_STORE = made(8, [], [(thing, thing + 1) for thing in range(6)])


class AgainstAllPapers(unittest.TestCase):
    def check(self, store, saying, inputs, most):
        weigher = Weigher(store, Question(("a", "b"), saying))
        holds = second.truth(plain(store), saying, dict(zip("ab", inputs)))
        for yes in (True, False):
            lists = sorted(second.papers(plain(store), saying, dict(zip("ab", inputs)), yes, most))
            by_length = [[list(marks) for marks in lists if len(marks) == length] for length in range(most + 1)]
            told_here = (saying, store.page(), inputs, yes)
            self.assertEqual(weigher.counted(*inputs, most=most, yes=yes), [len(some) for some in by_length], told_here)
            least = weigher.least(*inputs, yes=yes)
            self.assertEqual(least is not None, holds == yes, told_here)
            if least is None:
                self.assertEqual(told(raised(weigher.first, *inputs, yes=yes)), ("NoPaper", {}))
                self.assertEqual(lists, [])
            elif least <= most:
                self.assertEqual([some != [] for some in by_length].index(True), least, told_here)
                self.assertEqual(weigher.first(*inputs, yes=yes), by_length[least][0], told_here)
            else:
                self.assertEqual(lists, [], told_here)

    def test_small_stores(self):
        for store in every_small_store()[::2]:
            for saying in KINDS + NESTED:
                for inputs in ((0, 0), (0, store.size - 1), (store.size - 1, 0)):
                    self.check(store, saying, inputs, 5)

    def test_stores_of_three_and_four_things(self):
        for store in some_stores():
            for saying in KINDS + NESTED:
                for inputs in ((0, 2), (2, 0), (1, 1)):
                    self.check(store, saying, inputs, 5)

    def test_longer_papers(self):
        for store in some_stores()[2:5]:
            for saying in KINDS[9:]:
                for inputs in ((0, 2), (2, 1)):
                    self.check(store, saying, inputs, 11)

    def test_no_papers_of_ways(self):
        both = made(3, [], [(0, 1), (1, 0)])
        choice = ("way", "x", "y", ("some", "z", ("and", ("link", "road", "x", "y"), ("link", "road", "y", "z"))), "a", "b")
        self.check(both, WAY.saying, (0, 2), 29)
        self.check(both, ("within", 2, *WAY.saying[1:]), (0, 2), 29)
        self.check(both, ("within", 1, *WAY.saying[1:]), (0, 2), 18)
        self.check(made(2, [0], [(0, 0)]), choice, (0, 1), 14)
        self.check(made(3, [1], [(0, 1), (1, 1)]), ("within", 1, *choice[1:]), (0, 2), 16)
        self.check(made(3, [], [(0, 1)]), ("way", "x", "y", ("and", ("link", "road", "x", "y"), ("less", "x", "y")), "a", "b"),
                   (0, 2), 26)
        self.check(made(3, [], [(0, 1), (1, 2)]), ("within", 1, *WAY.saying[1:]), (0, 2), 14)


class Least(unittest.TestCase):
    def test_by_hand(self):
        store = made(3, [1], [(0, 1), (1, 2)])
        for text, yes, no in (
                ("has red b", 0, None), ("has red a", None, 0), ("not has red b", None, 0), ("not has red a", 0, None),
                ("and less a b has red a", None, 1), ("or has red b less a b", 1, None), ("or has red a same a b", None, 0),
                ("some x has red x", 1, None), ("some x less x a", None, 0), ("all x same x x", 0, None),
                ("all x has red x", None, 1), ("all x some y same x y", 3, None), ("count x most 1 has red x", 3, None),
                ("count x rest 2 0 has red x", None, 3), ("count x least 3 some y link road x y", None, 5),
                ("way x y link road x y a b", 3, None), ("way x y link road x y a a", 1, None),
                ("within 0 x y link road x y a b", None, 1), ("within 1 x y link road x y b a", None, 12)):
            weigher = Weigher(store, Question.read("a b : " + text))
            self.assertEqual((weigher.least(0, 1), weigher.least(0, 1, yes=False)), (yes, no), text)

    def test_the_example(self):
        weigher = Weigher(EXAMPLE, WAY)
        self.assertEqual(weigher.least(0, 2, yes=False), 23)
        self.assertEqual(weigher.first(0, 2, yes=False), MARKS)
        self.assertEqual(weigher.counted(0, 2, most=23, yes=False), [0] * 23 + [1])
        self.assertIsNone(weigher.least(0, 2))
        self.assertEqual(weigher.counted(0, 2), [0] * 21)
        self.assertEqual(weigher.first(0, 1), [1, 1, 0])

    def test_yes_papers_of_lines_and_rings(self):
        for size in range(1, 9):
            for one, two in pairs(size):
                self.assertEqual(Weigher(ring(size), WAY).least(one, two), 1 + 2 * ((two - one) % size))
                least = Weigher(line(size), WAY).least(one, two)
                self.assertEqual(least, 1 + 2 * (two - one) if one <= two else None)
        trace = [mark for thing in range(1, 8) for mark in (1, thing)]
        self.assertEqual(Weigher(line(8), WAY).first(0, 7), [*trace, 0])
        self.assertEqual(Weigher(ring(8), WAY).first(1, 0), [*trace[2:], 1, 0, 0])

    def denial(self, size, start, steps):
        """The length of a no paper of a line from the start, with at most so many steps, none of whose things is the end."""
        total, round_steps = 0, 0
        reach = {start}
        while round_steps != steps:
            wider = {thing for thing in range(size) if start <= thing <= start + round_steps + 1}
            for thing in range(size):
                shown = [thing] if thing in wider else reach
                total += 1 + sum(1 + 2 * (each - start) for each in shown)
            if wider == reach:
                break
            reach = wider
            round_steps += 1
        return total + sum(1 + 2 * (each - start) for each in reach)

    def test_no_papers_of_lines(self):
        for size in range(2, 9):
            store = line(size)
            for start, end in pairs(size):
                no = None if end >= start else self.denial(size, start, None)
                self.assertEqual(Weigher(store, WAY).least(start, end, yes=False), no)
                for steps in range(9):
                    within = Question(("a", "b"), ("within", steps, *WAY.saying[1:]))
                    reached = start <= end <= start + steps
                    no = None if reached else self.denial(size, start, steps)
                    self.assertEqual(Weigher(store, within).least(start, end, yes=False), no, (size, start, end, steps))

    def test_no_papers_of_rings(self):
        for size in range(2, 9):
            apart = made(size, [], [(thing, (thing + 1) % (size - 1)) for thing in range(size - 1)])
            for start in range(size - 1):
                weigher = Weigher(apart, WAY)
                least = weigher.least(start, size - 1, yes=False)
                self.assertEqual(len(weigher.first(start, size - 1, yes=False)), least)
                self.assertEqual(least, weigher.least(0, size - 1, yes=False))
                self.assertIs(is_paper(apart, WAY.denied(), (start, size - 1), weigher.first(start, size - 1, yes=False)), True)


class First(unittest.TestCase):
    def test_the_least_of_the_shortest(self):
        store = made(4, [2, 3], [(0, 2), (0, 1), (1, 3), (2, 3)])
        for text, inputs, marks in (
                ("a b : way x y link road x y a b", (0, 3), [1, 1, 1, 3, 0]),
                ("a b : way x y and link road x y or has red x has red y a b", (0, 3), [1, 2, 1, 1, 3, 0, 0]),
                ("a b : or same a b or same b b same a a", (1, 2), [1, 0]),
                ("a b : or or same b b same a b same a b", (1, 1), [1]),
                (": some x has red x", (), [2]),
                (": some x or same x x has red x", (), [0, 0]),
                (": some x or link road x x has red x", (), [2, 1]),
                (": not all x has red x", (), [0]),
                (": count x least 1 has red x", (), [0, 0, 1, 1])):
            question = Question.read(text)
            self.assertEqual(Weigher(store, question).first(*inputs), marks, text)
            self.assertIs(is_paper(store, question, inputs, marks), True, text)

    # A step by road takes three marks, one by sea three marks and one for each thing there is.
    TWO_KINDS = "x y or link road x y and link sea x y count z least 0 same z z a b"

    def check_two_kinds(self, size, road, sea, text, marks):
        store = Store(size, {"road": (2, road), "sea": (2, sea)})
        question = Question.read(f"a b : {text} {self.TWO_KINDS}")
        self.assertEqual(Weigher(store, question).first(0, 3), marks)
        self.assertIs(is_paper(store, question, (0, 3), marks), True)

    def test_more_steps_may_be_shorter(self):
        road, sea = [(0, 1), (1, 2), (2, 3)], [(0, 3)]
        over_land = [1, 1, 0, 1, 2, 0, 1, 3, 0, 0]
        for text in ("way", "within 3", "within 8"):
            self.check_two_kinds(8, road, sea, text, over_land)
            self.check_two_kinds(4, road, sea, text, [1, 3, 1, 1, 1, 1, 1, 0])
            # Both take ten marks here, and the list that begins with 1 1 is less.
            self.check_two_kinds(6, road, sea, text, over_land)
        for text in ("within 1", "within 2"):
            self.check_two_kinds(8, road, sea, text, [1, 3, 1, *[1] * 8, 0])

    def test_the_least_thing_comes_first_whatever_its_step_takes(self):
        one, two = [1] * 4, [1, 1] + [1] * 4
        for text in ("way", "within 2", "within 5"):
            self.check_two_kinds(4, [(0, 2), (1, 3)], [(0, 1), (2, 3)], text, [1, 1, 1, *one, 1, 3, 0, 0])
            self.check_two_kinds(4, [(0, 1), (2, 3)], [(0, 2), (1, 3)], text, [1, 1, 0, 1, 3, *two[1:], 0])

    def test_first_papers_are_papers(self):
        for store in some_stores():
            for saying in KINDS + NESTED:
                for inputs in pairs(store.size)[::2]:
                    question = Question(("a", "b"), saying)
                    weigher = Weigher(store, question)
                    yes = weigher.least(*inputs) is not None
                    marks = weigher.first(*inputs, yes=yes)
                    self.assertEqual(len(marks), weigher.least(*inputs, yes=yes))
                    self.assertIs(is_paper(store, question if yes else question.denied(), inputs, marks), True)
                    denied = Weigher(store, question.denied())
                    self.assertEqual(denied.first(*inputs, yes=not yes), marks)
                    self.assertEqual(denied.counted(*inputs, yes=not yes), weigher.counted(*inputs, yes=yes))

    def test_papers_of_5000_marks_and_one_more(self):
        question = Question.read("a b : " + LONG.format(""))
        weigher = Weigher(LONG_STORE, question)
        self.assertEqual(weigher.least(0, 7, yes=False), 5000)
        marks = weigher.first(0, 7, yes=False)
        self.assertEqual(len(marks), 5000)
        self.assertIs(is_paper(LONG_STORE, question.denied(), (0, 7), marks), True)
        for spoilt in (marks[:-1], [*marks, 0], [*marks[:2500], 1 - marks[2500], *marks[2501:]]):
            self.assertIs(is_paper(LONG_STORE, question.denied(), (0, 7), spoilt), False)
        beyond = Weigher(LONG_STORE, Question.read("a b : " + LONG.format("all u ")))
        self.assertEqual(beyond.least(0, 7, yes=False), 5001)
        self.assertEqual(told(raised(beyond.first, 0, 7, yes=False)), ("TooLong", {"most": 5000}))
        self.assertEqual(beyond.least(0, 7, yes=False), 5001)
        self.assertEqual(beyond.first(0, 6), [0, 0, *weigher.first(0, 6)[2:]])
        self.assertEqual(told(raised(beyond.first, 0, 7)), ("NoPaper", {}))

    def test_papers_far_too_long(self):
        weigher = Weigher(Store(8, {}), Question.read(": all x all y all z all u count v rest 2 0 same v v"))
        self.assertEqual(weigher.least(), 8 ** 5)
        self.assertEqual(told(raised(weigher.first)), ("TooLong", {"most": 5000}))
        self.assertEqual(weigher.counted(most=40), [0] * 41)


class Counted(unittest.TestCase):
    def test_most(self):
        weigher = Weigher(ring(2), WAY)
        ways = [1 if length in (1, 5, 9, 13, 17, 21, 25, 29, 33, 37) else 0 for length in range(41)]
        self.assertEqual(weigher.counted(0, 0), ways[:21])
        self.assertEqual(weigher.counted(0, 0, yes=True), ways[:21])
        for most in (0, 1, 2, 20, 21, 39, 40):
            self.assertEqual(weigher.counted(0, 0, most=most), ways[:most + 1])
            self.assertEqual(weigher.counted(0, 0, most=most, yes=False), [0] * (most + 1))
        for most in (-1, 41, 10 ** 14, True, False, None, "20", "", (), (3,), [20]):
            error = raised(weigher.counted, 0, 0, most=most)
            self.assertEqual(told(error), ("InvalidNumber", {"given": most}))
            self.assertIs(type(error.given), type(most))
            self.assertEqual(told(raised(weigher.counted, 0, 0, most=most, yes=False)), ("InvalidNumber", {"given": most}))

    def test_great_numbers(self):
        # Each walk over k steps in a store in which every step holds: 8 ** (k - 1) of them end at a given thing.
        every = Weigher(Store(8, {}), Question.read("a b : way x y same x x a b"))
        walks = [0] * 41
        for steps in range(1, 20):
            walks[2 * steps + 1] = 8 ** (steps - 1)
        self.assertEqual(every.counted(3, 5, most=40), walks)
        walks[1] = 1
        self.assertEqual(every.counted(3, 3, most=40), walks)
        thrice = Weigher(Store(8, {}), Question.read("a b : way x y some z same z z a b"))
        walks = [0] * 41
        for steps in range(1, 14):
            walks[3 * steps + 1] = 8 ** (2 * steps - 1)
        self.assertEqual(thrice.counted(3, 5, most=40), walks)

    def test_the_greatest_numbers(self):
        squares = Weigher(Store(6, {}), Question.read(": all x all y some z same z z"))
        self.assertEqual(squares.counted(most=40), [0] * 36 + [6 ** 36] + [0] * 4)
        self.assertEqual(squares.counted(most=35), [0] * 36)
        tens = Weigher(Store(8, {}), Question.read(": all x some y some z some u some v same v v"))
        self.assertEqual(tens.counted(most=40), [0] * 32 + [8 ** 32] + [0] * 8)
        both = Weigher(Store(8, {}), Question.read(": all x or some y some z some u same u u some y same y y"))
        lengths = [0] * 41
        for dear in range(9):
            ways = len([bits for bits in product((0, 1), repeat=8) if sum(bits) == dear])
            lengths[16 + 2 * dear] = ways * 8 ** (8 - dear) * 8 ** (3 * dear)
        self.assertEqual(both.counted(most=40), lengths)

    def test_the_default(self):
        weigher = Weigher(Store(3, {}), Question.read(": some x same x x"))
        self.assertEqual(weigher.counted(), [0, 3] + [0] * 19)
        self.assertEqual(weigher.counted(yes=False), [0] * 21)

    def test_within_counts_no_longer_traces(self):
        weigher = Weigher(Store(3, {}), Question.read("a b : within 2 x y same x x a b"))
        self.assertEqual(weigher.counted(0, 1, most=7), [0, 0, 0, 1, 0, 3, 0, 0])
        self.assertEqual(weigher.counted(1, 1, most=7), [0, 1, 0, 1, 0, 3, 0, 0])


class Errors(unittest.TestCase):
    def test_unfit(self):
        question = Question.read("a : and has d a and link c a a has b a")
        for tables, name in (({}, "b"), ({"c": (1, [])}, "b"), ({"b": (1, [])}, "c"), ({"b": (1, []), "c": (1, [])}, "c"),
                             ({"b": (1, []), "c": (2, [])}, "d")):
            self.assertEqual(told(raised(Weigher, Store(2, tables), question)), ("Unfit", {"name": name}))

    def test_inputs(self):
        weigher = Weigher(line(3), WAY)
        for inputs in ((), (0,), (0, 1, 2), (0, 3), (-1, 0), (0, True), ("0", 1), (None, 0), ((0, 1),), ([0, 1],), (0, (1,))):
            for call in (weigher.least, weigher.first, weigher.counted):
                for yes in (True, False):
                    error = raised(call, *inputs, yes=yes)
                    self.assertEqual(told(error), ("InvalidInputs", {"given": inputs}))
                    self.assertIs(type(error.given), tuple)
            self.assertEqual(told(raised(weigher.counted, *inputs, most=-1)), ("InvalidInputs", {"given": inputs}))
        for value in ODD_VALUES:
            self.assertEqual(told(raised(weigher.least, 0, value)), ("InvalidInputs", {"given": (0, value)}))
        self.assertEqual(told(raised(Weigher(line(3), Question.read(": some x same x x")).first, 0))[0], "InvalidInputs")

    def test_no_paper(self):
        weigher = Weigher(line(3), WAY)
        self.assertEqual(told(raised(weigher.first, 2, 0)), ("NoPaper", {}))
        self.assertEqual(told(raised(weigher.first, 0, 2, yes=False)), ("NoPaper", {}))

    def test_what_stands_by_its_name_alone(self):
        weigher = Weigher(question=WAY, store=line(3))
        self.assertRaises(ValueError, weigher.least, 0, 2, False)
        self.assertRaises(ValueError, weigher.counted, 0, 2, 5)


class ByTurns(unittest.TestCase):
    def questions(self, weigher):
        for inputs in pairs(3):
            for yes in (True, False):
                yield lambda inputs=inputs, yes=yes: weigher.least(*inputs, yes=yes)
                yield lambda inputs=inputs, yes=yes: weigher.counted(*inputs, yes=yes)
                yield lambda inputs=inputs, yes=yes: weigher.counted(*inputs, most=40, yes=yes)
                yield lambda inputs=inputs, yes=yes: weigher.counted(*inputs, yes=yes, most=3)
                yield lambda inputs=inputs, yes=yes: self.first_or_none(weigher, inputs, yes)

    def first_or_none(self, weigher, inputs, yes):
        if weigher.least(*inputs, yes=yes) is None:
            raised(weigher.first, *inputs, yes=yes)
            return None
        return weigher.first(*inputs, yes=yes)

    def test_answers_do_not_hang_on_what_was_asked_before(self):
        for store in (line(3), EXAMPLE, ring(3)):
            for saying in (WAY.saying, ("within", 1, *WAY.saying[1:]), *NESTED[10:16]):
                question = Question(("a", "b"), saying)
                alone = [call() for call in self.questions(Weigher(store, question))]
                weigher = Weigher(store, question)
                calls = list(self.questions(weigher))
                for at in range(len(calls) - 1, -1, -1):
                    self.assertEqual(calls[at](), alone[at])
                for call, answer in zip(calls, alone):
                    self.assertEqual(call(), answer)

    def test_changed_answers(self):
        weigher = Weigher(EXAMPLE, WAY)
        for call, answer in ((lambda: weigher.first(0, 2, yes=False), MARKS), (lambda: weigher.first(0, 1), [1, 1, 0]),
                             (lambda: weigher.counted(0, 1, most=3), [0, 0, 0, 1])):
            for _ in range(3):
                found = call()
                self.assertIs(type(found), list)
                self.assertEqual(found, answer)
                found.append(7)
                found[0] = 9
        nested = Weigher(EXAMPLE, Question.read("a b : and link road a b some x link road a x"))
        nested.first(0, 1).clear()
        self.assertEqual(nested.first(0, 1), [1])

    def test_errors_change_nothing(self):
        weigher = Weigher(EXAMPLE, WAY)
        for call in (lambda: weigher.first(0, 2), lambda: weigher.counted(0, 2, most=41), lambda: weigher.least(9, 9)):
            raised(call)
            self.assertEqual(weigher.first(0, 2, yes=False), MARKS)
            self.assertEqual(weigher.counted(0, 1), [0, 0, 0, 1] + [0] * 17)


if __name__ == "__main__":
    unittest.main()
