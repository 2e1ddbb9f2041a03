"""[16] and the interface of judging.py."""

import random
import unittest
from itertools import product

import plainly
import second
from drawn import drawn_reader
from helper import ODD_VALUES, plain, raised, told
from oncethrough.compiling import compiled
from oncethrough.exploring import shortest
from oncethrough.judging import Cheated, Right, Silent, Verdict, judge, loosened
from oncethrough.leaning import lean
from oncethrough.questions import Question
from oncethrough.readers import Reader
from oncethrough.stores import Store

ALWAYS = Reader([0], [("end",)], inputs=1)
NEVER = Reader([0], [("refuse",)], inputs=1)
RED = Question.read("a : has red a")
WIDE_ROWS = [("has", "red", 0, 2), ("end",), ("refuse",)]

TEXTS = (
    "a : has red a", "a : not has red a", ": some x has red x", ": all x has red x", ": count x rest 2 1 has red x",
    "a b : link road a b", "a b : and link road a b not same a b", "a : some x link road a x", "a : all x link road x a",
    "a : count x least 2 link road a x", "a b : or link road a b link road b a", "a b : less a b", "a b c : or same a b less c a",
    "a : and has red a not link road a a", "a b : not and link road a b has red b", ": count x most 1 link road x x",
)


def told_of(verdict):
    """The word of a verdict, and its parameters."""
    parameters = dict(vars(verdict))
    return parameters.pop("word"), parameters


def all_stores(question, size):
    """The stores that are judged, in their order, straight from [16]."""
    rows = []
    for name in sorted(question.tables()):
        rows += [(name, row) for row in product(range(size), repeat=question.tables()[name])]
    for number in range(2 ** len(rows)):
        kept = [rows[at] for at in range(len(rows)) if number // 2 ** at % 2 == 1]
        yield Store(size, {name: (places, [row for table, row in kept if table == name])
                           for name, places in question.tables().items()})


def second_verdict(reader, question, size):
    """The verdict, with meaning and papers written out a second time."""
    pairs = 0
    for store in all_stores(question, size):
        for inputs in product(range(size), repeat=len(question.names)):
            holds = second.truth(plain(store), question.saying, dict(zip(question.names, inputs)))
            ends = [stop for stop in plainly.stops(reader, store, inputs) if reader.rows[stop[0]][0] == "end"]
            if holds and not ends:
                return "silent", {"store": store, "inputs": inputs}
            if ends and not holds:
                return "cheated", {"store": store, "inputs": inputs, "marks": shortest(reader, store, inputs)}
            pairs += 1
    return "right", {"pairs": pairs}


class Verdicts(unittest.TestCase):
    def test_classes(self):
        store = Store(2, {})
        self.assertEqual(vars(Verdict("word")), {"word": "word"})
        self.assertEqual(vars(Right(7)), {"word": "right", "pairs": 7})
        self.assertEqual(vars(Cheated(store, (1,), [0, 1])),
                         {"word": "cheated", "store": store, "inputs": (1,), "marks": [0, 1]})
        self.assertEqual(vars(Silent(store, (0,))), {"word": "silent", "store": store, "inputs": (0,)})
        for made in (Right(1), Cheated(store, (), []), Silent(store, ())):
            self.assertIsInstance(made, Verdict)
        self.assertEqual(vars(Verdict(word="x")), {"word": "x"})
        self.assertEqual(Right(pairs=3).pairs, 3)
        self.assertEqual(Cheated(marks=(1,), inputs=[0], store=store).marks, [1])
        self.assertEqual(Cheated(marks=(1,), inputs=[0], store=store).inputs, (0,))
        self.assertEqual(Silent(inputs=[0], store=store).inputs, (0,))
        marks = [1]
        made = Cheated(store, (), marks)
        marks.append(2)
        self.assertEqual(made.marks, [1])


class Judging(unittest.TestCase):
    def test_right(self):
        for size in (1, 2, 3, 8):
            self.assertEqual(told_of(judge(Reader([0], WIDE_ROWS, inputs=1), RED, size)),
                             ("right", {"pairs": 2 ** size * size}))
        self.assertEqual(told_of(judge(compiled(Question.read("a b c : same a b")), Question.read("a b c : same a b"), 8)),
                         ("right", {"pairs": 512}))
        self.assertEqual(told_of(judge(Reader([], [("end",)]), Question.read(": all x same x x"), 5)), ("right", {"pairs": 1}))

    def test_at_the_first_store_and_inputs(self):
        none = Store(3, {"red": (1, [])})
        self.assertEqual(told_of(judge(ALWAYS, RED, 3)), ("cheated", {"store": none, "inputs": (0,), "marks": []}))
        self.assertEqual(told_of(judge(NEVER, RED.denied(), 3)), ("silent", {"store": none, "inputs": (0,)}))
        verdict = judge(ALWAYS, RED, 3)
        self.assertEqual(type(verdict), Cheated)
        self.assertEqual(type(verdict.inputs), tuple)
        self.assertEqual(type(verdict.marks), list)
        self.assertEqual(type(judge(NEVER, RED.denied(), 3)), Silent)
        self.assertEqual(type(judge(Reader([0], WIDE_ROWS, inputs=1), RED, 1)), Right)

    def test_at_a_late_store(self):
        # Wrong where 0 is red alone: the bit of the first row is the lowest one.
        self.assertEqual(told_of(judge(NEVER, RED, 3)), ("silent", {"store": Store(3, {"red": (1, [(0,)])}), "inputs": (0,)}))
        self.assertEqual(told_of(judge(ALWAYS, Question.read("a : or not has red a some x not has red x"), 3)),
                         ("cheated", {"store": Store(3, {"red": (1, [(0,), (1,), (2,)])}), "inputs": (0,), "marks": []}))

    def test_at_the_last_pair(self):
        # The last store has all rows; the last inputs are the greatest things.
        question = Question.read("a b : not and all x has red x not or less a b less b a")
        last = Question.read("a b : not and and all x has red x same a b not some x less a x")
        for asked in (question, last):
            found = told_of(judge(Reader([0, 0], [("end",)], inputs=2), asked, 3))
            inputs = (2, 2) if asked is last else (0, 0)
            self.assertEqual(found, ("cheated", {"store": Store(3, {"red": (1, [(0,), (1,), (2,)])}), "inputs": inputs,
                                                 "marks": []}))
        denied = last.denied()
        self.assertEqual(told_of(judge(Reader([0, 0], [("refuse",)], inputs=2), denied, 3)),
                         ("silent", {"store": Store(3, {"red": (1, [(0,), (1,), (2,)])}), "inputs": (2, 2)}))

    def test_the_order_of_stores(self):
        # Tables by name, then rows: bits of blue come ahead of those of red and road.
        question = Question.read("a : and has blue a or has red a link road a a")
        found = []
        for store in all_stores(question, 1):
            found.append([name for name in ("blue", "red", "road") if len(store.rows_of(name)) > 0])
        self.assertEqual(found, [[], ["blue"], ["red"], ["blue", "red"], ["road"], ["blue", "road"], ["red", "road"],
                                 ["blue", "red", "road"]])
        verdict = judge(NEVER, question, 1)
        self.assertEqual(verdict.store, Store(1, {"blue": (1, [(0,)]), "red": (1, [(0,)]), "road": (2, [])}))
        verdict = judge(NEVER, Question.read("a : some x and link road a x not same a x"), 2)
        self.assertEqual(verdict.store, Store(2, {"road": (2, [(0, 1)])}))
        self.assertEqual(verdict.inputs, (0,))
        verdict = judge(NEVER, Question.read("a : some x and link road x a less a x"), 3)
        self.assertEqual(verdict.store, Store(3, {"road": (2, [(1, 0)])}))

    def test_the_first_shortest_paper(self):
        reader = Reader([0, 0, 2, 1], [("read", 2), ("same", 2, 3, 4), ("read", 1), ("jump", 5), ("read", 1), ("has", "red", 1, 0),
                                       ("end",)], inputs=1)
        verdict = judge(reader, RED, 3)
        self.assertEqual(told_of(verdict), ("cheated", {"store": Store(3, {"red": (1, [(0,)])}), "inputs": (1,),
                                                        "marks": [0, 0]}))

    def test_compiled_and_lean_readers(self):
        for text in TEXTS:
            question = Question.read(text)
            for size in (1, 2, 3):
                rows = sum(size ** places for places in question.tables().values())
                if rows <= 6:
                    pairs = 2 ** rows * size ** len(question.names)
                    for reader in (compiled(question), lean(compiled(question))):
                        self.assertEqual(told_of(judge(reader, question, size)), ("right", {"pairs": pairs}), (text, size))
                    wrong = compiled(question.denied())
                    self.assertNotEqual(judge(wrong, question, size).word, "right")

    def test_against_the_text(self):
        for text in TEXTS:
            question = Question.read(text)
            for other in TEXTS:
                if Question.read(other).names == question.names:
                    reader = compiled(Question.read(other))
                    if not set(reader.tables().items()) <= set(question.tables().items()):
                        continue
                    self.assertEqual(told_of(judge(reader, question, 2)), second_verdict(reader, question, 2), (text, other))

    def test_drawn_readers(self):
        draw = random.Random(51)
        words = {}
        for _ in range(700):
            question = Question.read(draw.choice(TEXTS))
            reader = drawn_reader(draw, 3, 8)
            if reader.inputs != len(question.names):
                continue
            if not set(reader.tables().items()) <= set(question.tables().items()):
                continue
            found = judge(reader, question, 2)
            self.assertEqual(told_of(found), second_verdict(reader, question, 2), (question, reader.page()))
            words[found.word] = words.get(found.word, 0) + 1
        self.assertGreater(min(words.get("cheated", 0), words.get("silent", 0)), 15)

    def test_readers_with_one_row_loosened(self):
        for text in TEXTS:
            question = Question.read(text)
            reader = compiled(question)
            for at, row in enumerate(reader.rows):
                if row[0] in ("same", "less", "has", "link") and sum(question.tables().values()) < 3:
                    other = loosened(reader, at)
                    self.assertEqual(told_of(judge(other, question, 2)), second_verdict(other, question, 2), (text, at))


class Small(unittest.TestCase):
    """Readers of small questions never come to too many stops, up to the size 3."""

    def drawn_look(self, draw, scope):
        words = {"has": ["red"], "link": ["road"], "same": [], "less": []}
        word = draw.choice(sorted(words))
        return (word, *words[word], *[draw.choice(scope) for _ in range(1 if word == "has" else 2)])

    def drawn_saying(self, draw, many, scope, quantors):
        if many == 1:
            return self.drawn_look(draw, scope)
        word = draw.choice(["not", "and", "or"] + ["some", "all", "count", "count"] * quantors)
        if word == "not" or many == 2 and word in ("and", "or"):
            return ("not", self.drawn_saying(draw, many - 1, scope, quantors))
        if word in ("and", "or"):
            left = draw.randint(1, many - 2)
            first = draw.random() < 0.5
            return (word, self.drawn_saying(draw, left, scope, quantors * first),
                    self.drawn_saying(draw, many - 1 - left, scope, quantors * (not first)))
        inner = self.drawn_saying(draw, many - 1, [*scope, "x"], 0)
        if word == "count":
            return (word, "x", draw.choice([("rest", 8, 1), ("rest", 3, 2), ("least", 2), ("most", 1)]), inner)
        return (word, "x", inner)

    def test_stops(self):
        draw = random.Random(52)
        most = 0
        for _ in range(250):
            question = Question(("a", "b", "c"), self.drawn_saying(draw, 5, ["a", "b", "c"], 1))
            for reader in (compiled(question), lean(compiled(question))):
                stores = list(all_stores(question, 2))
                draw.shuffle(stores)
                for store in stores[:4] + [Store(3, {name: (places, [(0,) * places, (2,) * places])
                                                     for name, places in question.tables().items()})]:
                    most = max(most, len(plainly.stops(reader, store, (0, 1, 1))))
        self.assertLess(most, 200)

    def test_a_question_with_9_rows(self):
        question = Question.read("a b : count x rest 3 1 or link road a x link road x b")
        for reader in (compiled(question), lean(compiled(question))):
            self.assertEqual(told_of(judge(reader, question, 3)), ("right", {"pairs": 512 * 9}))


class Loosened(unittest.TestCase):
    READER = Reader([0, 0, 2], [("read", 1), ("same", 1, 0, 3), ("zero", 1), ("less", 1, 0, 5), ("has", "red", 1, 6),
                                ("link", "road", 0, 1, 7), ("up", 1), ("jump", 0), ("copy", 0, 1), ("top", 1), ("refuse",),
                                ("end",)], inputs=1)

    def test_each_row(self):
        for at, row in ((1, ("same", 1, 1, 3)), (3, ("same", 1, 1, 5)), (4, ("same", 1, 1, 6)), (5, ("same", 0, 0, 7))):
            found = loosened(self.READER, at)
            rows = list(self.READER.rows)
            rows[at] = row
            self.assertEqual(found, Reader(self.READER.cells, rows, inputs=1))
        self.assertEqual(loosened(at=1, reader=self.READER), loosened(self.READER, 1))
        self.assertEqual(self.READER.rows[1], ("same", 1, 0, 3))

    def test_other_numbers(self):
        for at in (0, 2, 6, 7, 8, 9, 10, 11, 12, 13, -1, -8, 10 ** 14, *ODD_VALUES, True, False, None, "1", (1,), [4]):
            error = raised(loosened, self.READER, at)
            self.assertEqual(told(error), ("InvalidNumber", {"given": at}))
            self.assertIs(type(error.given), type(at))

    def test_it_goes_on_as_if_the_answer_were_yes(self):
        reader = Reader([0], WIDE_ROWS, inputs=1)
        store = Store(2, {"red": (1, [])})
        self.assertIsNone(shortest(reader, store, (1,)))
        self.assertEqual(shortest(loosened(reader, 0), store, (1,)), [])
        self.assertEqual(told_of(judge(loosened(reader, 0), RED, 2))[0], "cheated")


class Errors(unittest.TestCase):
    def wrong(self, reader, question, size, code, **attributes):
        self.assertEqual(told(raised(judge, reader, question, size)), (code, attributes))

    def test_sizes(self):
        for size in (*ODD_VALUES, 0, 9, -1, 10 ** 14, True, False, None, "3", (3,), [3]):
            # The numbers of inputs differ too.
            error = raised(judge, NEVER, Question.read(": some x has red x"), size)
            self.assertEqual(told(error), ("InvalidNumber", {"given": size}))
            self.assertIs(type(error.given), type(size))

    def test_unlike(self):
        blue = Reader([0, 0], [("has", "blue", 0, 0), ("end",)], inputs=2)
        for reader in (Reader([], [("end",)]), Reader([0, 0], [("end",)]), blue):
            self.wrong(reader, RED, 8, "Unlike")

    def test_unfit(self):
        rows = [("has", "b", 0, 1), ("link", "c", 0, 0, 2), ("has", "d", 0, 3), ("end",)]
        reader = Reader([0], rows, inputs=1)
        for text, name in (("a : same a a", "b"), ("a : has b a", "c"), ("a : and has b a has c a", "c"),
                           ("a : and link c a a has d a", "b"), ("a : and has b a link c a a", "d"),
                           ("a : and has b a and link c a a link d a a", "d"), ("a : link b a a", "b")):
            # Some of these have too many rows too.
            for size in (1, 8):
                self.wrong(reader, Question.read(text), size, "Unfit", name=name)
        full = Question.read("a : and has b a and link c a a has d a")
        self.assertEqual(judge(reader, full, 1).word, "cheated")

    def test_9_and_10_rows(self):
        end = Reader([0], [("end",)], inputs=1)
        for text, size, rows in (("a : has b a", 8, 8), ("a : link b a a", 3, 9), ("a : link b a a", 4, 16),
                                 ("a : and has b a has c a", 4, 8), ("a : and has b a has c a", 5, 10),
                                 ("a : and link b a a has c a", 2, 6), ("a : and link b a a has c a", 3, 12),
                                 ("a : and has b a and has c a has d a", 3, 9), ("a : and has b a and has c a has d a", 4, 12)):
            if rows > 9:
                self.wrong(end, Question.read(text), size, "TooMany", most=9)
            else:
                self.assertEqual(judge(end, Question.read(text), size).word, "cheated")

    def test_4_and_5_tables(self):
        end = Reader([0], [("end",)], inputs=1)
        four = Question.read("a : and has b a and has c a and has d a has e a")
        five = Question.read("a : and has f a and has b a and has c a and has d a has e a")
        self.assertEqual(judge(end, four, 1).word, "cheated")
        self.assertEqual(judge(end, four, 2).word, "cheated")
        self.wrong(end, four, 3, "TooMany", most=9)
        self.wrong(end, five, 1, "TooMany", most=4)
        self.wrong(end, five, 2, "TooMany", most=9)
        compiled_five = compiled(five)
        self.wrong(compiled_five, five, 1, "TooMany", most=4)
        self.wrong(compiled_five, four, 1, "Unfit", name="f")

    def test_too_many_stops(self):
        many = Reader([0, 2001], [("read", 1), ("jump", 0)], inputs=1)
        self.wrong(many, RED, 2, "TooMany", most=2000)
        # Where nothing is red the reader refuses; with 0 red it comes to too many stops.
        late = Reader([0, 2001], [("has", "red", 0, 3), ("read", 1), ("jump", 1), ("refuse",)], inputs=1)
        self.wrong(late, RED, 2, "TooMany", most=2000)
        # The reader is wrong ahead of that.
        cheats = Reader([0, 2001], [("has", "red", 0, 3), ("read", 1), ("jump", 1), ("end",)], inputs=1)
        self.assertEqual(judge(cheats, RED, 2).word, "cheated")
        self.assertEqual(judge(late, RED.denied(), 2).word, "silent")
        # Too many stops come ahead of the verdict at the same store and inputs.
        both = Reader([0, 2000, 1], [("read", 1), ("same", 1, 2, 3), ("end",), ("read", 1), ("jump", 3)], inputs=1)
        self.wrong(both, RED, 2, "TooMany", most=2000)

    def test_by_name(self):
        self.assertEqual(judge(size=1, question=RED, reader=NEVER).word, "silent")


if __name__ == "__main__":
    unittest.main()
