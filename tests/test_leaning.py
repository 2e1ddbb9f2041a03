"""[13] and the interface of leaning.py."""

import random
import unittest
from itertools import product

import plainly
from drawn import drawn_marks, drawn_pairs, drawn_store
from oncethrough.compiling import compiled
from oncethrough.leaning import lean, needed
from oncethrough.questions import Question
from oncethrough.readers import Reader
from oncethrough.readings import Reading
from samples import KINDS, NESTED, made


def states(reader, store, inputs, marks):
    """The states ahead of all marks and behind each one."""
    reading = Reading(reader, store, inputs)
    return [reading.state, *[reading.put(mark) for mark in marks]]


class Needed(unittest.TestCase):
    def check(self, cells, rows, needs, inputs=0):
        reader = Reader(cells, rows, inputs=inputs)
        self.assertEqual(needed(reader), needs)
        self.assertEqual(plainly.needed(reader), needs)

    def test_each_kind_of_row(self):
        for row, uses, sets in ((("read", 1), [], [1]), (("zero", 1), [], [1]), (("top", 1), [], [1]), (("up", 1), [1], [1]),
                                (("copy", 1, 2), [2], [1]), (("copy", 1, 1), [1], [1]), (("same", 0, 2, 2), [0, 2], []),
                                (("less", 2, 1, 2), [1, 2], []), (("same", 1, 1, 2), [1], []), (("has", "red", 1, 2), [1], []),
                                (("link", "road", 2, 0, 2), [0, 2], []), (("link", "road", 2, 2, 2), [2], []),
                                (("jump", 1), [], [])):
            self.check([0, 0, 0], [row, ("end",), ("refuse",)], [uses, [], []])
            # All cells are used in the row behind.
            behind = [("link", "road", 0, 1, 2), ("up", 2), ("end",)]
            needs = sorted({*uses, *[cell for cell in (0, 1, 2) if cell not in sets]})
            if row[0] not in ("same", "less", "has", "link"):
                self.check([0, 0, 0], [row, *behind], [needs, [0, 1, 2], [2], []])

    def test_rows_behind_which_nothing_follows(self):
        self.check([0], [("end",), ("up", 0), ("refuse",), ("up", 0), ("jump", 0)], [[], [0], [], [0], []])

    def test_both_rows_that_follow_count(self):
        rows = [("same", 0, 0, 2), ("up", 1), ("up", 2), ("end",)]
        self.check([0, 0, 0], rows, [[0, 1, 2], [1, 2], [2], []])
        rows = [("has", "red", 0, 3), ("zero", 2), ("jump", 3), ("up", 2), ("end",)]
        self.check([0, 0, 0], rows, [[0, 2], [], [2], [2], []])

    def test_round_and_round(self):
        rows = [("read", 0), ("same", 0, 1, 3), ("jump", 0), ("zero", 0), ("up", 1), ("jump", 0)]
        self.check([2, 2], rows, [[1], [0, 1], [1], [1], [1], [1]])

    def test_rows_that_cannot_be_reached_count_too(self):
        self.check([3, 3], [("jump", 2), ("up", 0), ("up", 1), ("end",)], [[1], [0, 1], [1], []])

    def test_inputs_are_like_other_cells(self):
        self.check([0, 0], [("up", 0), ("end",)], [[0], []], inputs=2)

    def test_drawn(self):
        for reader, _, _ in drawn_pairs(21, 800, 5, 14):
            self.assertEqual(needed(reader), plainly.needed(reader), reader.page())

    def test_kinds_of_values(self):
        found = needed(reader=Reader([0], [("end",)]))
        self.assertEqual(found, [[]])
        reader = Reader([0, 0], [("same", 0, 1, 0), ("end",)])
        needed(reader)[0].append(5)
        self.assertEqual(needed(reader), [[0, 1], []])
        self.assertIs(type(needed(reader)), list)
        self.assertTrue(all(type(cells) is list for cells in needed(reader)))

    def test_the_largest(self):
        rows = [("up", cell) for cell in range(300)] * 33 + [("jump", 0)]
        self.assertEqual(needed(Reader([5] * 300, rows)), [list(range(300))] * len(rows))
        rows = [row for cell in range(300) for row in (("zero", cell), ("up", cell))] + [("end",)]
        self.assertEqual(needed(Reader([5] * 300, rows)), [needs for cell in range(300) for needs in ([], [cell])] + [[]])


class Lean(unittest.TestCase):
    def check(self, cells, rows, lean_cells, lean_rows, inputs=0):
        reader = Reader(cells, rows, inputs=inputs)
        self.assertEqual(lean(reader), Reader(lean_cells, lean_rows, inputs=inputs))
        self.assertEqual(plainly.is_lean(lean(reader)), "")
        self.assertEqual(reader, Reader(cells, rows, inputs=inputs))

    def test_rows_that_cannot_be_reached(self):
        self.check([], [("end",), ("refuse",), ("end",)], [], [("end",)])
        self.check([2], [("read", 0), ("jump", 4), ("refuse",), ("read", 0), ("end",)], [2],
                   [("read", 0), ("jump", 2), ("end",)])
        self.check([2], [("same", 0, 0, 3), ("end",), ("up", 0), ("refuse",)], [2], [("same", 0, 0, 2), ("end",), ("refuse",)])

    def test_jumps_to_jumps(self):
        self.check([2], [("jump", 1), ("jump", 2), ("jump", 3), ("read", 0), ("end",)], [2], [("jump", 1), ("read", 0), ("end",)])
        self.check([2], [("read", 0), ("same", 0, 0, 3), ("jump", 4), ("jump", 5), ("jump", 0), ("end",)], [2],
                   [("read", 0), ("same", 0, 0, 3), ("jump", 0), ("end",)])

    def test_jumps_that_come_round(self):
        for rows, many in (([("jump", 0)], 1), ([("jump", 1), ("jump", 0)], 2), ([("jump", 1), ("jump", 2), ("jump", 1)], 3),
                           ([("jump", 3), ("end",), ("jump", 4), ("jump", 2), ("jump", 3)], 4)):
            found = lean(Reader([], rows))
            self.assertEqual(plainly.is_lean(found), "")
            self.assertEqual(len(found), many)
            self.assertEqual(Reading(found, made(1, [], []), ()).state, "refused")
        found = lean(Reader([2], [("read", 0), ("same", 0, 0, 3), ("end",), ("jump", 4), ("jump", 3)]))
        self.assertEqual(plainly.is_lean(found), "")
        self.assertEqual(len(found), 5)

    def test_cells_that_occur_nowhere(self):
        self.check([0, 0, 5, 3], [("read", 3), ("end",)], [0, 3], [("read", 1), ("end",)], inputs=1)
        self.check([0, 0], [("end",)], [0, 0], [("end",)], inputs=2)
        self.check([0, 0], [("end",), ("up", 1), ("refuse",)], [], [("end",)])

    def test_cells_that_do_not_clash(self):
        # The mark in cell 0 is not needed any more where cell 1 is read.
        self.check([0, 0], [("read", 0), ("has", "red", 0, 4), ("read", 1), ("has", "red", 1, 4), ("end",)], [0],
                   [("read", 0), ("has", "red", 0, 4), ("read", 0), ("has", "red", 0, 4), ("end",)])
        # Where it is still needed, or stands in a cell with another range, both stay.
        kept = [("read", 0), ("read", 1), ("same", 0, 1, 0), ("end",)]
        self.check([0, 0], kept, [0, 0], kept)
        kept = [("read", 0), ("has", "red", 0, 4), ("read", 1), ("has", "red", 1, 5), ("refuse",), ("end",)]
        self.check([0, 4], kept, [0, 4], kept)
        # An input keeps its cell.
        self.check([0, 0], kept, [0, 0], kept, inputs=1)

    def test_what_is_needed_at_row_0(self):
        kept = [("read", 2), ("same", 0, 1, 0), ("up", 0), ("end",)]
        self.check([3, 3, 2], kept, [3, 3, 2], kept)
        # One cell alone is needed at row 0: the other one is set ahead of its use.
        self.check([3, 3], [("up", 0), ("read", 1), ("up", 1), ("end",)], [3], [("up", 0), ("read", 0), ("up", 0), ("end",)])

    def test_a_cell_that_is_set_but_never_used(self):
        self.check([3, 3], [("read", 0), ("read", 1), ("end",)], [3], [("read", 0), ("read", 0), ("end",)])
        kept = [("read", 0), ("read", 1), ("up", 0), ("end",)]
        self.check([3, 3], kept, [3, 3], kept)

    def test_cells_that_are_copied(self):
        self.check([3, 3], [("read", 0), ("copy", 1, 0), ("up", 1), ("end",)], [3],
                   [("read", 0), ("copy", 0, 0), ("up", 0), ("end",)])
        kept = [("read", 0), ("copy", 1, 0), ("up", 1), ("same", 0, 1, 0), ("end",)]
        self.check([3, 3], kept, [3, 3], kept)
        self.check([3, 9], [("read", 1), ("copy", 0, 1), ("end",)], [3, 9], [("read", 1), ("copy", 0, 1), ("end",)])

    def test_rows_that_cannot_be_reached_do_not_part_cells(self):
        self.check([3, 3], [("read", 0), ("up", 0), ("read", 1), ("up", 1), ("end",), ("same", 0, 1, 0), ("end",)], [3],
                   [("read", 0), ("up", 0), ("read", 0), ("up", 0), ("end",)])

    def test_drawn(self):
        draw = random.Random(22)
        fewer_rows = fewer_cells = 0
        for reader, store, inputs in drawn_pairs(23, 2500, 6, 14):
            found = lean(reader)
            self.assertEqual(found.inputs, reader.inputs)
            self.assertEqual(found.cells[:reader.inputs], reader.cells[:reader.inputs])
            self.assertLessEqual(len(found), len(reader))
            self.assertLessEqual(len(found.cells), len(reader.cells))
            self.assertEqual(plainly.is_lean(found), "", (reader.page(), found.page()))
            self.check_states(reader, found, store, inputs, draw)
            fewer_rows += len(found) < len(reader)
            fewer_cells += len(found.cells) < len(reader.cells)
        self.assertGreater(fewer_rows, 500)
        self.assertGreater(fewer_cells, 500)

    def check_states(self, reader, found, store, inputs, draw):
        for marks in ([], [0] * 6, [1, 0, 1, 0, 1, 1], drawn_marks(draw, 8), drawn_marks(draw, 8), drawn_marks(draw, 8)):
            self.assertEqual(states(found, store, inputs, marks), states(reader, store, inputs, marks), reader.page())

    def test_drawn_readers_in_which_cells_can_be_shared(self):
        # Each part reads into a cell of its own and looks at it; parts follow one another by drawn ways.
        draw = random.Random(24)
        for _ in range(150):
            many = draw.randint(2, 6)
            rows = []
            for cell in range(many):
                at = 4 * cell
                rows += [("read", cell), ("has", "red", cell, 4 * draw.randrange(many)), ("copy", draw.randrange(many), cell),
                         ("same", cell, draw.randrange(many), at + 4)]
            rows.append(("end",))
            reader = Reader([draw.choice((0, 0, 3)) for _ in range(many)], rows)
            found = lean(reader)
            self.assertEqual(plainly.is_lean(found), "")
            store = drawn_store(draw, 4)
            for _ in range(20):
                marks = [draw.randrange(store.size) for _ in range(8)]
                self.assertEqual(states(found, store, (), marks), states(reader, store, (), marks), reader.page())

    def test_compiled_readers(self):
        store = made(2, [1], [(0, 1)])
        lists = [list(marks) for marks in product(range(3), repeat=4)]
        for saying in KINDS + NESTED:
            for question in (Question(("a", "b"), saying), Question(("a", "b"), saying).denied()):
                reader = compiled(question)
                found = lean(reader=reader)
                self.assertEqual(plainly.is_lean(found), "")
                self.assertLessEqual(len(found), len(reader))
                self.assertLessEqual(len(found.cells), len(reader.cells))
                for marks in lists:
                    self.assertEqual(states(found, store, (0, 1), marks), states(reader, store, (0, 1), marks))

    def test_twice(self):
        for reader, _, _ in drawn_pairs(25, 300, 5, 12):
            self.assertEqual(lean(lean(reader)), lean(reader))

    def test_the_largest(self):
        rows = [("jump", at + 1) for at in range(9999)] + [("end",)]
        self.assertEqual(lean(Reader([], rows)), Reader([], [("jump", 1), ("end",)]))
        rows = [row for cell in range(300) for row in (("read", cell), ("up", cell))] * 16 + [("end",)]
        found = lean(Reader([7] * 300, rows))
        self.assertEqual(found, Reader([7], [("read", 0), ("up", 0)] * 4800 + [("end",)]))
        kept = [("up", cell) for cell in range(300)] + [("jump", 0)]
        self.assertEqual(lean(Reader([7] * 300, kept)), Reader([7] * 300, kept))


if __name__ == "__main__":
    unittest.main()
