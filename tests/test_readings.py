"""[10], [11] and the interface of readings.py."""

import random
import unittest
from itertools import product

import plainly
from drawn import PLAIN, drawn_marks, drawn_pairs
from helper import ODD_VALUES, raised, told
from oncethrough.readers import Reader
from oncethrough.readings import Reading, Recorded, verdict
from oncethrough.stores import Store
from samples import made

SIZES = (1, 2, 8)

# One row of each kind that neither reads nor jumps, over the cells 1 and 2.
KINDS = (("zero", 1), ("top", 1), ("up", 1), ("copy", 1, 2), ("same", 1, 2, 4), ("less", 1, 2, 4), ("has", "red", 1, 4),
         ("link", "road", 1, 2, 4), ("refuse",), ("jump", 4), ("copy", 1, 1), ("same", 1, 1, 4), ("link", "road", 1, 1, 4))

# For each range numbers in the way of which a cell of it may stand.
RANGES = (0, 1, 2, 3, 9, 10)

WRONG_MARKS = ODD_VALUES + ("0", "1", "a", -1, -2, (0,), [0], (1,))


def told_of(reading):
    return reading.state, reading.why, reading.row, reading.cells


class KindsOfRows(unittest.TestCase):
    def stores(self):
        for size in SIZES:
            yield made(size, [thing for thing in range(size) if thing != 1],
                       [(one, two) for one, two in product(range(size), repeat=2) if one + two != 2])

    def all_readings(self, reader, store):
        """Readings of the reader with all numbers in its cells 1 and 2, taken up at the read of row 0."""
        for numbers in product(*[range(plainly.top(reader, store, cell) + 1) for cell in (1, 2)]):
            yield (0, *numbers), Reading.taken(reader, store, 0, (0, *numbers))

    def test_every_kind_with_all_numbers(self):
        seen = set()
        for row in KINDS:
            for ranges in product(RANGES, repeat=2):
                reader = Reader((1, *ranges), [("read", 0), row, ("read", 0), ("end",), ("read", 0), ("end",)])
                for store in self.stores():
                    for cells, reading in self.all_readings(reader, store):
                        self.assertEqual(told_of(reading), ("waits", "", 0, cells))
                        state = plainly.put(reader, store, ("waits", "", 0, cells), 0)
                        self.assertEqual(reading.put(0), state[0])
                        self.assertEqual(told_of(reading), state, (row, ranges, store.size, cells))
                        seen.add((row[0], state[0], state[1], state[2]))
        for kind, whys in (("up", {"", "range"}), ("copy", {"", "range"}), ("has", {"", "thing"}), ("link", {"", "thing"}),
                           ("refuse", {"refuse"}), ("zero", {""}), ("top", {""}), ("same", {""}), ("less", {""})):
            self.assertEqual({why for word, _, why, _ in seen if word == kind}, whys, kind)

    def test_by_hand(self):
        store = Store(2, {"red": (1, [(1,)]), "road": (2, [(0, 1)])})
        for rows, why, at, cells in (
                ([("top", 0), ("top", 1), ("top", 2)], "", 3, (2, 2, 4)),
                ([("up", 0)], "", 1, (1, 0, 0)),
                ([("up", 0), ("up", 0)], "", 2, (2, 0, 0)),
                ([("up", 0), ("up", 0), ("up", 0)], "range", 2, (2, 0, 0)),
                ([("top", 2), ("up", 2)], "range", 1, (0, 0, 4)),
                ([("top", 2), ("copy", 1, 2)], "range", 1, (0, 0, 4)),
                ([("top", 1), ("copy", 2, 1)], "", 2, (0, 2, 2)),
                ([("top", 1), ("zero", 1)], "", 2, (0, 0, 0)),
                ([("has", "red", 1, 3)], "", 3, (0, 0, 0)),
                ([("up", 1), ("has", "red", 1, 3)], "", 2, (0, 1, 0)),
                ([("top", 1), ("has", "red", 1, 3)], "thing", 1, (0, 2, 0)),
                ([("top", 1), ("link", "road", 0, 1, 3)], "thing", 1, (0, 2, 0)),
                ([("top", 1), ("link", "road", 1, 0, 3)], "thing", 1, (0, 2, 0)),
                ([("up", 1), ("link", "road", 0, 1, 3)], "", 2, (0, 1, 0)),
                ([("up", 1), ("link", "road", 1, 0, 3)], "", 3, (0, 1, 0)),
                ([("jump", 2), ("end",), ("refuse",)], "refuse", 2, (0, 0, 0)),
                ([("jump", 1), ("jump", 0)], "round", 0, (0, 0, 0)),
                ([("jump", 0)], "round", 0, (0, 0, 0)),
                ([("top", 2), ("jump", 0)], "round", 1, (0, 0, 4))):
            kept = [*rows, *[("read", 0)] * (4 - len(rows)), ("end",)]
            reading = Reading(Reader([0, 0, 5], kept), store, ())
            self.assertEqual((reading.why, reading.row, reading.cells), (why, at, cells), rows)
            self.assertEqual(reading.state, "refused" if why else "waits")

    def test_numbers_that_are_things_in_cells_with_a_range(self):
        reader = Reader([9], [("read", 0), ("has", "red", 0, 3), ("end",), ("read", 0), ("end",)])
        store = made(3, [1], [])
        for mark, why in ((0, ""), (1, ""), (2, ""), (3, "thing"), (8, "thing"), (9, "mark")):
            reading = Reading(reader, store, ())
            reading.put(mark)
            self.assertEqual((reading.why, reading.row), (why, {"": 2 if mark == 1 else 3, "thing": 1, "mark": 0}[why]))

    def test_the_first_row_of_all(self):
        for row, state in ((("end",), "done"), (("refuse",), "refused"), (("jump", 0), "refused")):
            reading = Reading(Reader([], [row]), PLAIN, ())
            self.assertEqual((reading.state, reading.row, reading.cells), (state, 0, ()))
        self.assertEqual(Reading(Reader([3], [("read", 0), ("end",)]), PLAIN, ()).state, "waits")


class Marks(unittest.TestCase):
    def test_all_marks_a_read_takes(self):
        for size in SIZES:
            for cell in (0, 1, 2, 10, 10000):
                reader = Reader([cell], [("read", 0), ("end",)])
                takes = cell if cell else size
                for mark in {0, 1, 2, size - 1, size, size + 1, cell - 1, cell, cell + 1, 10 ** 14, -1}:
                    reading = Reading(reader, Store(size, {}), ())
                    self.assertEqual(reading.put(mark), "done" if 0 <= mark < takes else "refused")
                    if 0 <= mark < takes:
                        self.assertEqual(told_of(reading), ("done", "", 1, (mark,)))
                    else:
                        self.assertEqual(told_of(reading), ("refused", "mark", 0, (0,)))

    def test_marks_of_every_other_kind(self):
        reader = Reader([0, 3], [("read", 0), ("read", 1), ("end",)])
        for mark in WRONG_MARKS:
            for at in range(3):
                reading = Reading(reader, Store(2, {}), ())
                reading.put(*[1] * at)
                self.assertEqual(reading.put(mark), "refused")
                self.assertEqual(told_of(reading), ("refused", "mark", at, ((0, 0), (1, 0), (1, 1))[at]))
            self.assertIs(verdict(reader, Store(2, {}), (), [1, mark]), False)
            self.assertIs(verdict(reader, Store(2, {}), (), [mark, 1]), False)
            self.assertIs(verdict(reader, Store(2, {}), (), [1, 1, mark]), False)

    def test_a_mark_behind_the_end(self):
        reader = Reader([2], [("zero", 0), ("end",)])
        for mark in (0, 1, 5, -1, True, None):
            reading = Reading(reader, PLAIN, ())
            self.assertEqual(reading.put(), "done")
            self.assertTrue(reading)
            self.assertEqual(reading.put(mark), "refused")
            self.assertEqual(told_of(reading), ("refused", "mark", 1, (0,)))
            self.assertFalse(reading)

    def test_a_refused_reading_stays_as_it_is(self):
        reader = Reader([2, 2], [("read", 0), ("up", 1), ("jump", 0)])
        for marks in ((1, 1), (2,), (-1,), (1, 1, 0, 0), (2, 0, 0, 9)):
            reading = Reading(reader, PLAIN, ())
            self.assertEqual(reading.put(*marks), "refused")
            kept = told_of(reading)
            self.assertEqual(kept, ("refused", "range", 1, (1, 1)) if marks[0] == 1 else ("refused", "mark", 0, (0, 0)))
            for more in ((), (0,), (1, 1), ("x", None)):
                self.assertEqual(reading.put(*more), "refused")
                self.assertEqual(told_of(reading), kept)

    def test_put_in_parts(self):
        draw = random.Random(11)
        for reader, store, inputs in drawn_pairs(12, 300, 4, 10):
            marks = drawn_marks(draw, 7)
            states = plainly.states(reader, store, inputs, marks)
            single = Reading(reader, store, inputs)
            self.assertEqual(told_of(single), states[0])
            self.assertEqual(single.put(), states[0][0])
            for at, mark in enumerate(marks):
                self.assertEqual(single.put(mark), states[at + 1][0])
                self.assertEqual(told_of(single), states[at + 1])
                self.assertEqual(single.put(), states[at + 1][0])
                self.assertEqual(told_of(single), states[at + 1])
            for parted in range(len(marks) + 1):
                reading = Reading(reader, store, inputs)
                self.assertEqual(reading.put(*marks[:parted]), states[parted][0])
                self.assertEqual(reading.put(*marks[parted:]), states[-1][0])
                self.assertEqual(told_of(reading), states[-1])
            self.assertIs(verdict(reader, store, inputs, marks), states[-1][0] == "done")
            self.assertIs(verdict(reader, store, list(inputs), tuple(marks)), states[-1][0] == "done")


class Rounds(unittest.TestCase):
    def check(self, cells, rows, marks=()):
        reader = Reader(cells, rows)
        reading = Reading(reader, PLAIN, ())
        state = reading.put(*marks)
        self.assertEqual(told_of(reading), plainly.states(reader, PLAIN, (), marks)[-1])
        return state, reading.why, reading.row, reading.cells

    def test_one_row(self):
        self.assertEqual(self.check([], [("jump", 0)]), ("refused", "round", 0, ()))
        self.assertEqual(self.check([2, 2], [("up", 0), ("same", 0, 1, 1), ("end",)]), ("refused", "round", 1, (1, 0)))
        self.assertEqual(self.check([2, 2], [("less", 0, 1, 0), ("end",)]), ("refused", "round", 0, (0, 0)))
        self.assertEqual(self.check([0], [("has", "red", 0, 0), ("end",)]), ("refused", "round", 0, (0,)))
        self.assertEqual(self.check([0], [("link", "road", 0, 0, 0), ("end",)]), ("refused", "round", 0, (0,)))
        self.assertEqual(self.check([2], [("read", 0), ("jump", 1)], (1,)), ("refused", "round", 1, (1,)))

    def test_several_rows(self):
        self.assertEqual(self.check([], [("jump", 2), ("jump", 0), ("jump", 1)]), ("refused", "round", 0, ()))
        self.assertEqual(self.check([3], [("jump", 2), ("zero", 0), ("zero", 0), ("jump", 1)]), ("refused", "round", 2, (0,)))
        self.assertEqual(self.check([3], [("up", 0), ("zero", 0), ("jump", 0)]), ("refused", "round", 0, (0,)))
        # Row 2 is there twice, with other numbers.
        self.assertEqual(self.check([3], [("up", 0), ("up", 0), ("top", 0), ("zero", 0), ("jump", 2)]),
                         ("refused", "round", 3, (2,)))

    def test_numbers_that_change_before_they_come_again(self):
        # Counts 0, 1 .. in cell 0, and begins again at 0.
        rows = [("top", 1), ("same", 0, 1, 4), ("zero", 0), ("jump", 1), ("up", 0), ("jump", 1)]
        for reach in (1, 2, 3, 7, 30, 64, 65, 200):
            self.assertEqual(self.check([reach, reach], rows), ("refused", "round", 1, (0, reach - 1)))
        # The same behind a while in which other numbers stand there.
        late = [("up", 2), ("top", 3), ("same", 2, 3, 0), *[(*row[:-1], row[-1] + 3) if row[0] in ("same", "jump") else row
                                                           for row in rows]]
        for reach in (1, 5, 20, 70):
            for many in (2, 3, 40, 90):
                self.assertEqual(self.check([reach, reach, many, many], late)[:3], ("refused", "round", 4))

    def test_two_counters(self):
        rows = [("top", 2), ("same", 0, 2, 4), ("zero", 0), ("jump", 5), ("up", 0), ("top", 3), ("same", 1, 3, 9), ("zero", 1),
                ("jump", 0), ("up", 1), ("jump", 0)]
        for one, two in ((2, 3), (4, 6), (7, 5), (9, 11)):
            self.assertEqual(self.check([one, two, one, two], rows)[:2], ("refused", "round"))

    def test_a_read_between_is_no_round(self):
        reader = Reader([1], [("read", 0), ("jump", 0)])
        reading = Reading(reader, PLAIN, ())
        self.assertEqual(reading.put(*[0] * 500), "waits")
        self.assertEqual(told_of(reading), ("waits", "", 0, (0,)))

    def test_long_runs_without_a_round(self):
        rows = [("top", 1), ("up", 0), ("same", 0, 1, 1), ("end",)]
        for reach in (2, 33, 64, 65, 66, 129, 1000, 9999):
            reading = Reading(Reader([reach, reach], rows), PLAIN, ())
            self.assertEqual(told_of(reading), ("done", "", 3, (reach - 1, reach - 1)))
        rows = [("up", 0), ("jump", 0)]
        self.assertEqual(self.check([700], rows), ("refused", "range", 0, (699,)))

    def test_drawn_readers_that_rarely_read(self):
        words = ("read", "zero", "zero", "top", "up", "up", "copy", "same", "same", "less", "less", "jump", "has", "end")
        rounds = 0
        for reader, store, inputs in drawn_pairs(13, 1500, 4, 12, ranges=(0, 2, 5, 9, 17, 40), words=words):
            reading = Reading(reader, store, inputs)
            self.assertEqual(told_of(reading), plainly.begin(reader, store, inputs), reader.page())
            rounds += reading.why == "round"
        self.assertGreater(rounds, 200)


class TwinsAndTaken(unittest.TestCase):
    PATHS = Reader([0, 0, 4], [("read", 1), ("has", "red", 1, 4), ("up", 2), ("jump", 0), ("link", "road", 0, 1, 6),
                               ("end",), ("read", 2), ("jump", 0)], inputs=1)
    STORE = made(3, [0, 2], [(1, 1)])

    def check_both(self, one, other, rest):
        """Two readings in one state go on alike, and neither changes the other one."""
        self.assertEqual(told_of(one), told_of(other))
        kept = told_of(other)
        one.put(*rest)
        self.assertEqual(told_of(other), kept)
        gone = told_of(one)
        other.put(1, 2)
        self.assertEqual(told_of(one), gone)

    def test_twins_at_every_mark(self):
        for marks in ([0, 2, 0, 1], [1], [2, 2, 2, 2, 0], [5, 0], [0, 1, 3, 1]):
            for at in range(len(marks) + 1):
                reading = Reading(self.PATHS, self.STORE, (1,))
                reading.put(*marks[:at])
                twin = reading.twin()
                self.assertIs(type(twin), Reading)
                self.check_both(reading, twin, marks[at:])
                again = Reading(self.PATHS, self.STORE, (1,))
                again.put(*marks[:at])
                self.check_both(again.twin(), again, marks[at:])
                self.assertEqual(told_of(again.twin().twin()), told_of(again))

    def test_drawn_twins_and_readings_taken_up(self):
        draw = random.Random(14)
        for reader, store, inputs in drawn_pairs(15, 300, 4, 10):
            marks = drawn_marks(draw, 6)
            states = plainly.states(reader, store, inputs, marks)
            for at, state in enumerate(states):
                reading = Reading(reader, store, inputs)
                reading.put(*marks[:at])
                twin = reading.twin()
                self.assertEqual(twin.put(*marks[at:]), states[-1][0])
                self.assertEqual(told_of(twin), states[-1])
                self.assertEqual(told_of(reading), state)
                if state[0] == "refused":
                    self.assertEqual(told(raised(reading.stop)), ("Refused", {}))
                    continue
                self.assertEqual(reading.stop(), state[2:])
                for cells in (state[3], list(state[3])):
                    taken = Reading.taken(reader, store, state[2], cells)
                    self.assertEqual(told_of(taken), state)
                    self.assertEqual(taken.put(*marks[at:]), states[-1][0])
                    self.assertEqual(told_of(taken), states[-1])

    def test_stop(self):
        reading = Reading(self.PATHS, self.STORE, (1,))
        self.assertEqual(reading.stop(), (0, (1, 0, 0)))
        self.assertIs(type(reading.stop()), tuple)
        reading.put(1)
        self.assertEqual(reading.stop(), (5, (1, 1, 0)))
        reading.put(0)
        self.assertEqual(told(raised(reading.stop)), ("Refused", {}))
        self.assertEqual(told(raised(reading.twin().stop)), ("Refused", {}))

    def test_taken_where_no_mark_leads(self):
        reading = Reading.taken(self.PATHS, self.STORE, 6, [3, 3, 1])
        self.assertEqual(told_of(reading), ("waits", "", 6, (3, 3, 1)))
        self.assertEqual(reading.put(3), "waits")
        self.assertEqual(reading.cells, (3, 3, 3))
        self.assertEqual(told_of(Reading.taken(cells=(0, 0, 0), row=5, store=self.STORE, reader=self.PATHS)),
                         ("done", "", 5, (0, 0, 0)))

    def test_cells_that_are_passed_are_copied(self):
        cells = [1, 0, 0]
        reading = Reading.taken(self.PATHS, self.STORE, 0, cells)
        reading.put(0)
        self.assertEqual(cells, [1, 0, 0])
        cells[1] = 9
        self.assertEqual(reading.cells, (1, 0, 1))

    def wrong(self, row, cells):
        error = raised(Reading.taken, self.PATHS, self.STORE, row, cells)
        self.assertEqual(told(error), ("InvalidStop", {"given": (row, cells)}))
        self.assertIs(type(error.given[1]), type(cells))

    def test_no_stops(self):
        for row in (1, 2, 3, 4, 7, 8, -1, 10 ** 14, *ODD_VALUES, "0", (0,)):
            if row != 0 or isinstance(row, bool):
                self.wrong(row, (0, 0, 0))
                self.wrong(row, [0, 0, 0])
        for cells in ((), (0,), (0, 0), (0, 0, 0, 0), [], [0, 0], [0, 0, 0, 0], (4, 0, 0), (0, 4, 0), (0, 0, 4), [0, 0, -1],
                      (0, 0, 10 ** 14), (True, 0, 0), (0, False, 0), (0, 0, None), (0, 0, "0"), (0, 0, (0,)), (0, 0, [0]),
                      ((0, 0, 0),), "000", 0, None, True, ([0], 0, 0)):
            for row in (0, 5, 6, 1, None):
                self.wrong(row, cells)

    def test_given_is_a_copy(self):
        cells = [0, 0, [7]]
        error = raised(Reading.taken, self.PATHS, self.STORE, 0, cells)
        cells[2].append(8)
        cells.append(0)
        self.assertEqual(error.given, (0, [0, 0, [7]]))


class Looks(unittest.TestCase):
    def test_by_hand(self):
        reader = Reader([0, 0], [("read", 1), ("link", "road", 0, 1, 4), ("has", "red", 1, 0), ("end",), ("jump", 0)], inputs=1)
        store = made(3, [2], [(0, 1), (0, 2)])
        reading = Recorded(reader, store, (0,))
        self.assertEqual(reading.seen(), [])
        reading.put(1)
        self.assertEqual(reading.seen(), [("red", (1,), False), ("road", (0, 1), True)])
        reading.put(0)
        self.assertEqual(reading.seen(), [("red", (1,), False), ("road", (0, 0), False), ("road", (0, 1), True)])
        reading.put(1, 0, 1)
        self.assertEqual(reading.seen(), [("red", (1,), False), ("road", (0, 0), False), ("road", (0, 1), True)])
        self.assertEqual(reading.put(2), "done")
        self.assertEqual(reading.seen(), [("red", (1,), False), ("red", (2,), True), ("road", (0, 0), False),
                                          ("road", (0, 1), True), ("road", (0, 2), True)])
        reading.put(0)
        self.assertEqual(len(reading.seen()), 5)
        reading.seen().clear()
        self.assertEqual(len(reading.seen()), 5)

    def test_no_look_where_a_row_refused(self):
        reader = Reader([0, 0], [("has", "red", 0, 1), ("top", 1), ("link", "road", 0, 1, 3), ("end",)], inputs=1)
        reading = Recorded(reader, PLAIN, (1,))
        self.assertEqual((reading.why, reading.row), ("thing", 2))
        self.assertEqual(reading.seen(), [("red", (1,), True)])

    def test_looks_of_the_first_run(self):
        reader = Reader([0], [("has", "red", 0, 2), ("refuse",), ("end",)])
        self.assertEqual(Recorded(reader, PLAIN, ()).seen(), [("red", (0,), False)])
        self.assertEqual(Recorded(reader, PLAIN, ()).state, "done")

    def test_drawn(self):
        draw = random.Random(16)
        for reader, store, inputs in drawn_pairs(17, 500, 4, 12):
            marks = drawn_marks(draw, 6)
            looks = set()
            state = plainly.begin(reader, store, inputs, looks)
            reading = Recorded(reader, store, inputs)
            for mark in [*marks, None]:
                self.assertEqual(told_of(reading), state)
                self.assertEqual(reading.seen(), sorted(looks))
                self.assertIs(type(reading.seen()), list)
                twin = reading.twin()
                self.assertIs(type(twin), Recorded)
                self.assertEqual((told_of(twin), twin.seen()), (state, sorted(looks)))
                twin.put(1, 0, 1)
                self.assertEqual((told_of(reading), reading.seen()), (state, sorted(looks)))
                before = twin.seen()
                other = reading.twin()
                reading.put(mark)
                state = plainly.put(reader, store, state, mark, looks)
                self.assertEqual(twin.seen(), before)
                other.put(mark)
                self.assertEqual((told_of(other), other.seen()), (told_of(reading), reading.seen()))

    def test_it_is_a_reading(self):
        reading = Recorded(inputs=(1,), store=PLAIN, reader=Reader([0], [("has", "red", 0, 1), ("end",)], inputs=1))
        self.assertIsInstance(reading, Reading)
        self.assertTrue(reading)
        self.assertEqual(reading.stop(), (1, (1,)))
        self.assertFalse(hasattr(Reading(Reader([], [("end",)]), PLAIN, ()), "seen"))


class Errors(unittest.TestCase):
    READER = Reader([0, 0], [("has", "red", 0, 2), ("link", "road", 0, 1, 2), ("end",)], inputs=2)

    def calls(self, store, inputs):
        return (lambda: verdict(self.READER, store, inputs, [0]), lambda: Reading(self.READER, store, inputs),
                lambda: Recorded(self.READER, store, inputs))

    def test_unfit_comes_first(self):
        for tables, name in (({}, "red"), ({"road": (2, [])}, "red"), ({"red": (2, []), "road": (2, [])}, "red"),
                             ({"red": (1, [])}, "road"), ({"red": (1, []), "road": (1, [])}, "road"),
                             ({"red": (2, []), "road": (1, [])}, "red")):
            store = Store(2, tables)
            for inputs in ((0, 1), (0, 9), None):
                for call in self.calls(store, inputs):
                    self.assertEqual(told(raised(call)), ("Unfit", {"name": name}))
            for row, cells in ((2, (0, 0)), (9, None)):
                self.assertEqual(told(raised(Reading.taken, self.READER, store, row, cells)), ("Unfit", {"name": name}))

    def test_inputs(self):
        for inputs in ((), (0,), (0, 1, 0), [0], (0, 2), (-1, 0), (True, 0), (0, None), ("0", "1"), ((0,), 1), 5, "01", None,
                       True, [[0], 1]):
            given = tuple(inputs) if isinstance(inputs, (list, tuple)) else (inputs,)
            for call in self.calls(PLAIN, inputs):
                self.assertEqual(told(raised(call)), ("InvalidInputs", {"given": given}))
        for inputs in ((0, 1), [1, 1]):
            self.assertEqual(Reading(self.READER, PLAIN, inputs).cells, tuple(inputs))

    def test_marks_that_are_no_list(self):
        reader = Reader([], [("end",)])
        self.assertIs(verdict(reader, PLAIN, (), []), True)
        self.assertIs(verdict(reader, PLAIN, (), ()), True)
        for marks in (None, "", 0, False, "0"):
            self.assertIs(verdict(reader, PLAIN, (), marks), False)

    def test_by_name(self):
        reader = Reader([0], [("end",)], inputs=1)
        self.assertIs(verdict(marks=[], inputs=(1,), store=PLAIN, reader=reader), True)
        self.assertEqual(Reading(inputs=(1,), reader=reader, store=PLAIN).cells, (1,))

    def test_truth(self):
        reader = Reader([2], [("read", 0), ("end",)])
        reading = Reading(reader, PLAIN, ())
        self.assertIs(bool(reading), False)
        reading.put(1)
        self.assertIs(bool(reading), True)
        reading.put(1)
        self.assertIs(bool(reading), False)


if __name__ == "__main__":
    unittest.main()
