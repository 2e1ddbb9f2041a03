"""[1] and [2] over the whole program: names of parameters, lists for tuples, copies, and what leads from one part to another."""

import copy
import types
import unittest

from helper import raised, told
from oncethrough import (compiling, desk, errors, exploring, judging, leaning, meaning, opposites, papers, questions, readers,
                         readings, shelves, stores, weights, words)
from test_interface import CLASSES, FUNCTIONS

STORE = stores.Store(3, {"road": (2, [(0, 1)]), "red": (1, [(2,)])})
TEXT = "a b : way x y link road x y a b"
QUESTION = questions.Question.read(TEXT)
SAYING = ("way", "x", "y", ("link", "road", "x", "y"), "a", "b")
READER = readers.Reader([0, 0, 2], [("read", 1), ("link", "road", 0, 1, 3), ("end",), ("refuse",)], inputs=1)
CHECKER = compiling.compiled(QUESTION)
SHELF = shelves.Shelf(STORE)
SHELF.do(("claim", "far", TEXT, (0, 1), (1, 1, 0)), ("put", "road", 1, 2))


def shelf():
    return SHELF.twin()


def reading():
    return readings.Reading(CHECKER, STORE, (0, 1))


def listed(value):
    """What tells one value from another: generators as lists, objects without == by their attributes."""
    if isinstance(value, types.GeneratorType):
        return list(value)
    if isinstance(value, (readings.Reading, judging.Verdict, shelves.Claim)):
        return {name: item for name, item in vars(value).items() if not name.startswith("_")}
    if isinstance(value, (weights.Weigher, desk.Desk)):
        return type(value)
    return value


# What is called, with all its arguments by the names of its parameters.
CALLS = (
    (words.is_name, {"value": "a"}), (words.is_number, {"value": 1, "least": 0, "most": 2}),
    (stores.Store, {"size": 2, "tables": {"a": (1, [])}}), (stores.Store.read, {"text": STORE.page()}),
    (STORE.places, {"name": "road"}), (STORE.rows_of, {"name": "road"}), (STORE.within, {"other": STORE.put("red", 0)}),
    (questions.Question, {"names": ("a", "b"), "saying": SAYING}), (questions.Question.read, {"text": TEXT}),
    (meaning.truth, {"store": STORE, "question": QUESTION, "inputs": (0, 1)}),
    (papers.is_paper, {"store": STORE, "question": QUESTION, "inputs": (0, 1), "marks": [1, 1, 0]}),
    (papers.looks_of, {"store": STORE, "question": QUESTION, "inputs": (0, 1), "marks": [1, 1, 0]}),
    (weights.Weigher, {"store": STORE, "question": QUESTION}),
    (readers.Reader, {"cells": [0, 3], "rows": [("end",)], "inputs": 1}), (readers.Reader.read, {"text": READER.page()}),
    (readings.verdict, {"reader": CHECKER, "store": STORE, "inputs": (0, 1), "marks": [1, 1, 0]}),
    (readings.Reading, {"reader": CHECKER, "store": STORE, "inputs": (0, 1)}),
    (readings.Reading.taken, {"reader": CHECKER, "store": STORE, "row": reading().row, "cells": reading().cells}),
    (readings.Recorded, {"reader": CHECKER, "store": STORE, "inputs": (0, 1)}),
    (compiling.compiled, {"question": QUESTION}), (leaning.needed, {"reader": CHECKER}), (leaning.lean, {"reader": CHECKER}),
    (exploring.shortest, {"reader": CHECKER, "store": STORE, "inputs": (0, 1)}),
    (exploring.closed_list, {"reader": CHECKER, "store": STORE, "inputs": (0, 2)}),
    (exploring.is_closed, {"reader": CHECKER, "store": STORE, "inputs": (0, 2),
                           "stops": exploring.closed_list(CHECKER, STORE, (0, 2))}),
    (exploring.counted_papers, {"reader": CHECKER, "store": STORE, "inputs": (0, 1), "most": 5}),
    (exploring.papers_of, {"reader": CHECKER, "store": STORE, "inputs": (0, 1), "length": 3}),
    (exploring.numbered, {"reader": CHECKER, "store": STORE, "inputs": (0, 1), "length": 3, "at": 0}),
    (exploring.place_of, {"reader": CHECKER, "store": STORE, "inputs": (0, 1), "marks": [1, 1, 0]}),
    (exploring.parted, {"one": CHECKER, "other": leaning.lean(CHECKER), "store": STORE, "inputs": (0, 1)}),
    (opposites.opposite, {"reader": READER}), (judging.Verdict, {"word": "right"}), (judging.Right, {"pairs": 3}),
    (opposites.denial_length, {"reader": readers.Reader([], [("refuse",)]), "store": STORE, "inputs": ()}),
    (opposites.denial, {"reader": readers.Reader([], [("refuse",)]), "store": STORE, "inputs": ()}),
    (judging.Cheated, {"store": STORE, "inputs": (0,), "marks": [1]}), (judging.Silent, {"store": STORE, "inputs": (0,)}),
    (judging.judge, {"reader": READER, "question": questions.Question.read("a : some x link road a x"), "size": 2}),
    (judging.loosened, {"reader": READER, "at": 1}),
    (shelves.Claim, {"question": QUESTION, "inputs": (0,), "marks": (), "looks": ()}), (shelves.Shelf, {"store": STORE}),
    (SHELF.claim, {"name": "far"}), (SHELF.stands, {"name": "far"}), (shelves.Shelf.read, {"text": SHELF.page()}),
    (desk.claims_table, {"shelf": SHELF}), (desk.Desk, {"shelf": SHELF}), (desk.Desk(SHELF).answer, {"line": "states"}),
)

BY_NAME_ALONE = {readers.Reader: ("inputs",), exploring.counted_papers: ("most",)}

# In the place of these a list may be passed for a tuple, and a tuple for a list.
LISTS = ("names", "inputs", "marks", "cells", "stops", "rows", "looks")


def exchanged(value):
    return list(value) if isinstance(value, tuple) else tuple(value)


class Calls(unittest.TestCase):
    def test_by_names_in_another_order_and_by_position(self):
        for call, arguments in CALLS:
            turned = dict(reversed(list(arguments.items())))
            alone = BY_NAME_ALONE.get(call, ())
            placed = [value for name, value in arguments.items() if name not in alone]
            named = {name: arguments[name] for name in alone}
            self.assertEqual(listed(call(**turned)), listed(call(*placed, **named)), call)
            if named:
                self.assertRaises(TypeError, call, *arguments.values())

    def test_lists_for_tuples_and_tuples_for_lists(self):
        for call, arguments in CALLS:
            for name in arguments:
                if name in LISTS and not isinstance(arguments[name], int):
                    other = {**arguments, name: exchanged(arguments[name])}
                    self.assertEqual(listed(call(**other)), listed(call(**arguments)), (call, name))

    def test_arguments_are_not_changed_and_calls_are_equal(self):
        for call, arguments in CALLS:
            kept = {name: copy.deepcopy(value) for name, value in arguments.items()}
            first = listed(call(**arguments))
            self.assertEqual(first, listed(call(**arguments)))
            for name, value in arguments.items():
                self.assertEqual(listed(value), listed(kept[name]))

    def test_returned_lists_are_new(self):
        for call, arguments in CALLS:
            found = call(**arguments)
            if isinstance(found, list):
                kept = copy.deepcopy(found)
                for item in found:
                    if isinstance(item, list):
                        item.append(9)
                found.append(9)
                self.assertEqual(call(**arguments), kept)

    def test_every_name_of_the_interface_is_called(self):
        called = {(call.__module__, call.__name__) for call, _ in CALLS}
        for name, functions in FUNCTIONS.items():
            for function in functions:
                self.assertIn((f"oncethrough.{name}", function), called)
        for name, made in CLASSES:
            self.assertIn((f"oncethrough.{name}", made), called)

    def test_methods_that_change_their_object(self):
        one = reading()
        self.assertEqual(one.put(1, 1), "waits")
        self.assertEqual(one.put(), "waits")
        self.assertEqual(one.put(0), "done")
        work = desk.Desk(shelf=shelf())
        self.assertEqual(work.answer(line="undo"), "ok")
        self.assertEqual(len(work.shelf), 0)

    def test_what_returns_nothing(self):
        twin = shelf()
        self.assertIsNone(twin.undo())
        self.assertIsNone(twin.redo())

    def test_objects_that_never_change(self):
        claim = SHELF.claim("far")
        kept = (vars(claim).copy(), CHECKER.page(), STORE.page(), QUESTION.text())
        twin = shelf()
        twin.do(("drop", "road", 0, 1), ("forget", "far"))
        leaning.lean(CHECKER)
        opposites.opposite(READER)
        judging.judge(READER, questions.Question.read("a : some x link road a x"), 2)
        self.assertEqual((vars(claim), CHECKER.page(), STORE.page(), QUESTION.text()), kept)


class Through(unittest.TestCase):
    """From a text to a paper, its reader, its opposite, its claim and its page."""

    def test_yes_and_no(self):
        for inputs, holds in (((0, 1), True), ((0, 2), False), ((2, 2), True), ((1, 0), False)):
            for question, yes in ((QUESTION, True), (QUESTION.denied(), False)):
                weigher = weights.Weigher(STORE, QUESTION)
                reader = leaning.lean(compiling.compiled(question))
                if yes is not holds:
                    self.assertIsNone(exploring.shortest(reader, STORE, inputs))
                    stops = exploring.closed_list(reader, STORE, inputs)
                    self.assertIs(exploring.is_closed(reader, STORE, inputs, stops), True)
                    continue
                marks = weigher.first(*inputs, yes=yes)
                self.assertEqual(exploring.shortest(reader, STORE, inputs), marks)
                one = readings.Recorded(reader, STORE, inputs)
                one.put(*marks)
                self.assertTrue(one)
                twin = shelf()
                twin.do(("drop", "road", 1, 2), ("claim", "near", question.text(), inputs, tuple(marks)))
                self.assertEqual(list(twin.claim("near").looks), one.seen())
                self.assertEqual(shelves.Shelf.read(twin.page()), twin)

    def test_a_reader_that_denies(self):
        reader = readers.Reader([0], [("has", "red", 0, 2), ("end",), ("refuse",)], inputs=1)
        marks = opposites.denial(reader, STORE, (0,))
        opposite = opposites.opposite(reader)
        self.assertIs(readings.verdict(opposite, STORE, (0,), marks), True)
        self.assertIs(readings.verdict(leaning.lean(opposite), STORE, (0,), marks), True)
        self.assertEqual(told(raised(opposites.denial, reader, STORE, (2,))), ("HasPaper", {}))
        found = judging.judge(reader, questions.Question.read("a : has red a"), 3)
        self.assertEqual((found.word, found.pairs), ("right", 24))
        self.assertIsInstance(found, judging.Right)
        self.assertTrue(issubclass(errors.HasPaper, errors.OnceError))


if __name__ == "__main__":
    unittest.main()
