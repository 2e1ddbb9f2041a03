"""[15] and the interface of opposites.py."""

import random
import unittest
from itertools import product

import counters
from drawn import PLAIN, drawn_pairs
from helper import mutants, raised, told
from oncethrough.errors import HasPaper, TooLong, TooMany
from oncethrough.exploring import counted_papers, numbered, shortest
from oncethrough.opposites import denial, denial_length, opposite
from oncethrough.readers import Reader
from oncethrough.readings import Reading, verdict
from oncethrough.stores import Store
from samples import made

# The longest denial that is written, and one of a mark more.
ROWS_5000 = [("up", 0), ("copy", 0, 0), ("copy", 0, 0), ("read", 0), ("less", 0, 0, 2), ("zero", 0), ("read", 0),
             ("copy", 0, 0), ("jump", 8)]
ROWS_5001 = [("up", 0), ("same", 0, 0, 4), ("copy", 0, 0), ("zero", 0), ("read", 0), ("up", 0), ("read", 0), ("read", 0),
             ("up", 0), ("up", 0), ("read", 0), ("jump", 0)]


def denial_or_none(reader, store, inputs):
    try:
        return denial(reader, store, inputs)
    except (HasPaper, TooLong, TooMany):
        return None


class Limits(unittest.TestCase):
    def test_cells(self):
        for cells in ([1] * 6, [0] * 6, [12] * 6, [0, 1, 2, 3, 11, 12]):
            self.assertEqual(opposite(Reader(cells, [("end",)])).inputs, 0)
        for many in (7, 8, 300):
            self.assertEqual(told(raised(opposite, Reader([1] * many, [("end",)]))), ("TooMany", {"most": 6}))

    def test_rows(self):
        self.assertEqual(opposite(Reader([], [("jump", 11)] * 12)).inputs, 0)
        for many in (13, 14, 10000):
            self.assertEqual(told(raised(opposite, Reader([], [("end",)] * many))), ("TooMany", {"most": 12}))

    def test_ranges(self):
        for at in range(3):
            for reach in (13, 14, 10000):
                cells = [12, 12, 12]
                cells[at] = reach
                self.assertEqual(told(raised(opposite, Reader(cells, [("end",)]))), ("TooMany", {"most": 12}))

    def test_both(self):
        for cells, rows in (([13] * 7, 1), ([1] * 7, 13), ([13] * 7, 13)):
            self.assertEqual(told(raised(opposite, Reader(cells, [("end",)] * rows))), ("TooMany", {"most": 6}))
        self.assertEqual(told(raised(opposite, Reader([13] * 6, [("end",)] * 13))), ("TooMany", {"most": 12}))

    def rows(self, cells, many):
        """All kinds of rows by turns."""
        kinds = [("jump", 0), ("end",), ("refuse",)]
        if cells:
            last = cells - 1
            kinds = [("copy", 0, last), ("link", "road", 0, last, many - 1), ("read", last), ("up", 0), ("has", "red", last, 0),
                     ("less", last, 0, 0), ("same", 0, last, many - 1), ("top", last), ("zero", 0), *kinds]
        return kinds

    def test_bounds(self):
        for cells in range(7):
            for many in range(1, 13):
                kinds = self.rows(cells, many)
                for shift in range(len(kinds)):
                    rows = [kinds[(at * (shift + 1)) % len(kinds)] for at in range(many - 1)] + [("end",)]
                    self.check_bounds(Reader([12, 11, 10, 9, 0, 8][:cells], rows))
                    self.check_bounds(Reader([0] * cells, rows, inputs=cells))
                    self.check_bounds(Reader([1] * cells, [kinds[shift]] * (many - 1) + [("end",)]))

    def check_bounds(self, reader):
        found = opposite(reader)
        cells, rows = len(reader.cells), len(reader)
        self.assertLessEqual(len(found.cells), 14 * (cells + 1) + 20)
        self.assertLessEqual(len(found), min(10000, 200 * (cells + 1) * (rows + 2)))
        self.assertEqual(found.inputs, reader.inputs)
        self.assertEqual(found.tables(), reader.tables())
        self.assertEqual(opposite(reader), found)

    def test_large_standings(self):
        # 12 rows and 6 cells with the greatest ranges on the greatest store: the first marks are taken all the same.
        rows = [("read", at % 6) for at in range(11)] + [("refuse",)]
        for cells in ([12] * 6, [0] * 6):
            reading = Reading(opposite(Reader(cells, rows)), made(8, [], []), ())
            self.assertEqual(reading.put(1, 0, 1, 1, 1, 0), "refused")
            reading = Reading(opposite(Reader(cells, rows)), made(8, [], []), ())
            # Bit 1 with a trace for the first standing, then bit 0 with an entry for each of the next ones.
            self.assertEqual(reading.put(1, 0), "waits")
            for _ in range(30):
                self.assertEqual(reading.put(0, 0), "waits")
            self.assertEqual(reading.put(1, 0), "refused")


class AgainstTheText(unittest.TestCase):
    """Held against the points of counter-papers written out a second time."""

    def test_denials(self):
        denied = accepted = 0
        for reader, store, inputs in drawn_pairs(41, 700, 3, 6, 2):
            self.check_bounds(reader)
            try:
                marks = denial(reader, store, inputs)
            except (TooLong, TooMany):
                continue
            except HasPaper:
                accepted += 1
                self.assertIsNotNone(shortest(reader, store, inputs))
                self.assertEqual(told(raised(denial_length, reader, store, inputs)), ("HasPaper", {}))
                continue
            denied += 1
            self.assertIs(type(marks), list)
            self.assertIsNone(shortest(reader, store, inputs))
            self.assertEqual(denial_length(reader, store, inputs), len(marks))
            self.assertIs(verdict(opposite(reader), store, inputs, marks), True, (reader.page(), store.page(), inputs))
            self.assertIs(counters.is_counter_paper(reader, store, inputs, marks), True)
        self.assertGreater(denied, 250)
        self.assertGreater(accepted, 100)

    def check_bounds(self, reader):
        found = opposite(reader)
        self.assertLessEqual(len(found.cells), 14 * (len(reader.cells) + 1) + 20)
        self.assertLessEqual(len(found), 200 * (len(reader.cells) + 1) * (len(reader) + 2))

    def check_lists(self, reader, store, inputs, lists):
        other = opposite(reader)
        for marks in lists:
            self.assertIs(verdict(other, store, inputs, marks), counters.is_counter_paper(reader, store, inputs, marks),
                          (reader.page(), store.page(), inputs, marks))

    def test_changed_denials(self):
        draw = random.Random(42)
        for reader, store, inputs in drawn_pairs(43, 500, 3, 6, 2):
            marks = denial_or_none(reader, store, inputs)
            if marks is not None and len(marks) < 400:
                changed = mutants(marks, 2)
                draw.shuffle(changed)
                self.check_lists(reader, store, inputs, changed[:25])
                self.check_lists(reader, store, inputs, [self.changed_twice(draw, marks) for _ in range(10)])
                self.check_lists(reader, store, inputs, [self.doubled(draw, marks) for _ in range(5)])

    def changed_twice(self, draw, marks):
        changed = list(marks)
        for _ in range(2):
            at = draw.randrange(len(changed))
            kind = draw.randrange(3)
            changed[at:at + (kind > 0)] = [draw.randrange(3)] if kind < 2 else []
            if not changed:
                return changed
        return changed

    def doubled(self, draw, marks):
        at = draw.randrange(len(marks))
        behind = draw.randrange(at, min(len(marks), at + 4)) + 1
        return [*marks[:behind], *marks[at:behind], *marks[behind:]]

    def test_all_mutants_of_short_denials(self):
        for reader, store, inputs in drawn_pairs(44, 300, 2, 4, 1):
            marks = denial_or_none(reader, store, inputs)
            if marks is not None and len(marks) < 40:
                self.check_lists(reader, store, inputs, mutants(marks, 2))

    def test_drawn_counter_papers(self):
        draw = random.Random(45)
        longer = 0
        for reader, store, inputs in drawn_pairs(46, 400, 3, 6, 2):
            shortest_one = denial_or_none(reader, store, inputs)
            if shortest_one is None or len(shortest_one) > 600:
                continue
            other = opposite(reader)
            for _ in range(3):
                marks = counters.some_counter_paper(draw, reader, store, inputs)
                self.assertIs(counters.is_counter_paper(reader, store, inputs, marks), True)
                self.assertIs(verdict(other, store, inputs, marks), True, (reader.page(), store.page(), inputs, marks))
                self.assertGreaterEqual((len(marks), marks), (len(shortest_one), shortest_one))
                longer += marks != shortest_one
                at = draw.randrange(len(marks))
                self.check_lists(reader, store, inputs, [[*marks[:at], *marks[at + 1:]], [*marks[:at], 1, 0, *marks[at:]],
                                                         [*marks[:at], 1 - marks[at], *marks[at + 1:]]])
        self.assertGreater(longer, 100)

    def test_traces_with_a_step_too_many(self):
        # The row goes to itself, so that a trace may take any number of steps.
        reader = Reader([], [("jump", 0)])
        for first in ([0], [1, 0], [1, 1, 0]):
            for last in ([0], [1, 0]):
                self.assertIs(verdict(opposite(reader), PLAIN, (), [1, *first, *last]),
                              first in ([0], [1, 0]) and last == [0])
        self.assertEqual(denial(reader, PLAIN, ()), [1, 0, 0])

    def test_short_lists(self):
        readers = (Reader([], [("jump", 0)]), Reader([], [("refuse",)]), Reader([], [("end",)]),
                   Reader([], [("jump", 1), ("refuse",)]), Reader([], [("jump", 1), ("end",)]),
                   Reader([1], [("read", 0), ("jump", 0)]), Reader([2], [("read", 0), ("refuse",)]))
        lists = [list(marks) for length in range(9) for marks in product((0, 1), repeat=length)]
        for reader in readers:
            self.check_lists(reader, PLAIN, (), lists)


class FirstOfAll(unittest.TestCase):
    def test_no_accepted_list_ahead_of_the_denial(self):
        explored = 0
        for reader, store, inputs in drawn_pairs(47, 260, 2, 4, 1):
            marks = denial_or_none(reader, store, inputs)
            if marks is None:
                continue
            try:
                found = shortest(opposite(reader), store, inputs)
            except TooMany:
                continue
            explored += 1
            self.assertEqual(found, marks)
            if len(marks) <= 40:
                self.assertEqual(numbered(opposite(reader), store, inputs, len(marks), 0), marks)
                self.assertEqual(counted_papers(opposite(reader), store, inputs, most=len(marks))[:-1], [0] * len(marks))
        self.assertGreater(explored, 40)

    def test_no_counter_paper_where_a_paper_is_accepted(self):
        explored = 0
        for reader, store, inputs in drawn_pairs(48, 120, 2, 4, 1):
            if shortest(reader, store, inputs) is not None:
                try:
                    self.assertIsNone(shortest(opposite(reader), store, inputs))
                    explored += 1
                except TooMany:
                    pass
        self.assertGreater(explored, 15)

    def test_by_hand(self):
        for reader, marks in (
                (Reader([], [("refuse",)]), [1, 0, 0]),
                (Reader([], [("jump", 1), ("refuse",)]), [1, 0, 1, 1, 0, 1, 0, 1, 1, 0, 0, 1, 0]),
                (Reader([], [("refuse",), ("refuse",)]), [1, 0, 0, 0, 0]),
                (Reader([], [("refuse",), ("end",)]), [1, 0, 0, 0, 0]),
                (Reader([1], [("read", 0), ("refuse",)]), [1, 0, 1, 1, 0, 0, 1, 0, 1, 1, 0, 0, 0, 1, 0, 0])):
            self.assertEqual(denial(reader, PLAIN, ()), marks)
            self.assertEqual(denial_length(reader, PLAIN, ()), len(marks))
            self.assertIs(verdict(opposite(reader), PLAIN, (), marks), True)
            self.assertIs(counters.is_counter_paper(reader, PLAIN, (), marks), True)

    def test_the_least_of_the_shortest_traces(self):
        # The standing (2, 0) is reached by either mark with as many marks.
        reader = Reader([2], [("read", 0), ("zero", 0), ("refuse",)])
        marks = denial(reader, PLAIN, ())
        self.assertEqual(marks[-11:], [0, 1, 0, 0, 1, 1, 0, 1, 0, 1, 0])
        self.assertIs(verdict(opposite(reader), PLAIN, (), [*marks[:-4], 1, 1, 1, 0]), True)

    def test_steps_and_marks(self):
        # By the mark 0 four steps lead to (5, 0, 0), by the mark 1 three steps with as many marks.
        rows = [("read", 0), ("same", 0, 1, 4), ("zero", 0), ("jump", 5), ("read", 0)]
        few, many = [1, 1, 1, 1, 0, 0], [1, 0, 1, 1, 1, 0]
        behind = [1, 1, 1, 1, 1, 0]
        ahead = [0, 1, 0, 0, 1, 1, 0, 1, 0, 1, 0, 1, 0, 1, 1, 0, 1, 1, 1, 0]
        reader = Reader([2, 1], [*rows, ("refuse",)])
        marks = denial(reader, PLAIN, ())
        # In the last list no more than three steps may be taken.
        self.assertEqual(marks[-32:], [*ahead, *few, *behind])
        self.assertIs(verdict(opposite(reader), PLAIN, (), [*marks[:-12], *many, *behind]), False)
        # With more rows behind, there are more rounds, and four steps may be taken.
        reader = Reader([2, 1], [*rows, ("jump", 6), ("refuse",)])
        marks = denial(reader, PLAIN, ())
        last = [*ahead, *many, *behind, 1, 1, 1, 1, 0, 1, 0, 1, 1, 1, 1, 1, 1, 0]
        self.assertEqual(marks[-46:], last)
        self.assertIs(verdict(opposite(reader), PLAIN, (), [*marks[:-26], *few, *marks[-20:]]), True)

    def test_inputs(self):
        reader = Reader([0], [("has", "red", 0, 1), ("refuse",)], inputs=1)
        for things in ((0,), (1,)):
            marks = denial(reader, PLAIN, things)
            self.assertIs(verdict(opposite(reader), PLAIN, things, marks), True)
            self.assertIs(verdict(opposite(reader), PLAIN, (1 - things[0],), marks), False)
        reader = Reader([0], [("has", "red", 0, 2), ("end",), ("refuse",)], inputs=1)
        self.assertEqual(len(denial(reader, PLAIN, [0])), denial_length(reader, PLAIN, (0,)))
        self.assertEqual(told(raised(denial, reader, PLAIN, (1,))), ("HasPaper", {}))
        self.assertIs(verdict(opposite(reader), PLAIN, (1,), denial(reader, PLAIN, (0,))), False)

    def test_other_stores(self):
        reader = Reader([0], [("has", "red", 0, 2), ("end",), ("refuse",)], inputs=1)
        other = opposite(reader)
        for size in (1, 2, 3):
            for red in product((0, 1), repeat=size):
                store = made(size, [thing for thing in range(size) if red[thing]], [])
                for thing in range(size):
                    marks = denial_or_none(reader, store, (thing,))
                    self.assertIs(marks is None, red[thing] == 1)
                    if marks is not None:
                        self.assertIs(verdict(other, store, (thing,), marks), True)


class Errors(unittest.TestCase):
    def both(self, reader, store, inputs):
        found = [told(raised(call, reader, store, inputs)) for call in (denial_length, denial)]
        self.assertEqual(found[0], found[1])
        return found[0]

    def test_40_and_41_standings(self):
        # Behind the read each of the 19 numbers refuses: 2 * 20 standings.
        good = Reader([20], [("read", 0), ("refuse",)])
        self.assertEqual(counters.is_counter_paper(good, PLAIN, (), denial(good, PLAIN, ())), True)
        self.assertEqual(self.both(Reader([41], [("refuse",)]), PLAIN, ()), ("TooMany", {"most": 40}))
        self.assertEqual(len(denial(Reader([40], [("refuse",)]), PLAIN, ())), 2 + 2 * 39 + 1)
        self.assertEqual(len(denial(Reader([], [("refuse",)] * 40), PLAIN, ())), 2 + 2 * 39 + 1)
        self.assertEqual(self.both(Reader([], [("refuse",)] * 41), PLAIN, ()), ("TooMany", {"most": 40}))
        # A wide cell gives one number more than there are things.
        for rows, size, right in ((10, 3, True), (11, 3, False), (8, 4, True), (9, 4, False), (4, 8, True), (5, 8, False)):
            reader = Reader([0], [("refuse",)] * rows)
            if right:
                self.assertEqual(denial_length(reader, made(size, [], []), ()), 3 + 2 * (rows * (size + 1) - 1))
            else:
                self.assertEqual(self.both(reader, made(size, [], []), ()), ("TooMany", {"most": 40}))
        self.assertEqual(len(denial(Reader([1] * 300, [("refuse",)]), PLAIN, ())), 3)
        self.assertEqual(self.both(Reader([10000] * 300, [("refuse",)]), PLAIN, ()), ("TooMany", {"most": 40}))

    def test_papers(self):
        self.assertEqual(self.both(Reader([], [("end",)]), PLAIN, ()), ("HasPaper", {}))
        self.assertEqual(self.both(Reader([2], [("read", 0), ("has", "red", 0, 0), ("end",)]), PLAIN, ()), ("HasPaper", {}))
        # Too many standings come ahead of an accepted paper.
        self.assertEqual(self.both(Reader([41], [("end",)]), PLAIN, ()), ("TooMany", {"most": 40}))
        # Coming round is no row that refuses, but neither does it lead to an end.
        self.assertEqual(denial_length(Reader([], [("jump", 0), ("end",)]), PLAIN, ()), 5)

    def test_5000_marks_and_one_more(self):
        good = Reader([4], ROWS_5000)
        self.assertEqual(denial_length(good, PLAIN, ()), 5000)
        marks = denial(good, PLAIN, ())
        self.assertEqual(len(marks), 5000)
        self.assertIs(verdict(opposite(good), PLAIN, (), marks), True)
        self.assertIs(counters.is_counter_paper(good, PLAIN, (), marks), True)
        for at in (0, 1, 2500, 4998):
            spoilt = [*marks[:at], 1 - marks[at] if marks[at] < 2 else 0, *marks[at + 1:]]
            self.assertIs(verdict(opposite(good), PLAIN, (), spoilt), counters.is_counter_paper(good, PLAIN, (), spoilt))
        bad = Reader([2], ROWS_5001)
        self.assertEqual(denial_length(bad, PLAIN, ()), 5001)
        self.assertEqual(told(raised(denial, bad, PLAIN, ())), ("TooLong", {"most": 5000}))
        far = Reader([], [("jump", at + 1) for at in range(39)] + [("refuse",)])
        self.assertGreater(denial_length(far, PLAIN, ()), 50000)
        self.assertEqual(told(raised(denial, far, PLAIN, ())), ("TooLong", {"most": 5000}))

    def test_the_order(self):
        reader = Reader([0, 41], [("has", "red", 0, 1), ("end",)], inputs=1)
        for inputs in ((0,), (9,), None):
            self.assertEqual(self.both(reader, Store(2, {}), inputs), ("Unfit", {"name": "red"}))
            self.assertEqual(self.both(reader, Store(2, {"red": (2, [])}), inputs), ("Unfit", {"name": "red"}))
        for inputs in ((), (2,), (0, 1), [True], None, "0", 7):
            given = tuple(inputs) if isinstance(inputs, (list, tuple)) else (inputs,)
            self.assertEqual(self.both(reader, PLAIN, inputs), ("InvalidInputs", {"given": given}))
        self.assertEqual(self.both(reader, PLAIN, (0,)), ("TooMany", {"most": 40}))

    def test_readers_beyond_the_limits_of_opposites(self):
        reader = Reader([1] * 20, [("refuse",)] * 30)
        self.assertEqual(denial_length(reader, PLAIN, ()), 3 + 2 * 29)
        self.assertEqual(denial(reader, PLAIN, ()), [1, 0] + [0, 0] * 29 + [0])

    def test_by_name(self):
        reader = Reader([], [("refuse",)])
        self.assertEqual(opposite(reader=reader), opposite(reader))
        self.assertEqual(denial(inputs=(), store=PLAIN, reader=reader), [1, 0, 0])
        self.assertEqual(denial_length(inputs=(), store=PLAIN, reader=reader), 3)


class KindsOfRows(unittest.TestCase):
    def test_a_step_of_each_kind_of_row(self):
        # Behind two reads the row is gone to with all numbers that the marks can put into its cells.
        draw = random.Random(49)
        store = made(1, [0], [(0, 0)])
        for row in (("zero", 0), ("top", 0), ("up", 0), ("up", 1), ("copy", 0, 1), ("copy", 1, 0), ("copy", 1, 1),
                    ("same", 0, 1, 3), ("less", 0, 1, 3), ("less", 1, 0, 3), ("has", "red", 0, 3), ("has", "red", 1, 3),
                    ("link", "road", 0, 1, 3), ("link", "road", 1, 0, 3), ("read", 0), ("read", 1), ("jump", 0),
                    ("refuse",)):
            for cells in ((0, 2), (0, 0), (3, 2), (1, 3)):
                reader = Reader(cells, [("read", 0), ("read", 1), row, ("refuse",)])
                other = opposite(reader)
                lists = [denial(reader, store, ())]
                lists.append(counters.some_counter_paper(draw, reader, store, ()))
                for marks in lists:
                    self.assertIs(verdict(other, store, (), marks), True, (row, cells))
                    for _ in range(3):
                        at = draw.randrange(len(marks))
                        spoilt = [*marks[:at], draw.randrange(3), *marks[at + 1:]]
                        self.assertIs(verdict(other, store, (), spoilt),
                                      counters.is_counter_paper(reader, store, (), spoilt), (row, cells, spoilt))

    def test_no_entry_from_which_a_step_leads_there(self):
        # All lists with one bit or trace of the denial exchanged for another one, where one step leads to row 2 or 3.
        store = made(1, [0], [])
        for row in (("up", 0), ("zero", 0), ("top", 0), ("read", 0), ("same", 0, 0, 3), ("has", "red", 0, 3), ("jump", 2)):
            reader = Reader([2], [row, ("jump", 2), ("refuse",), ("refuse",)])
            marks = denial(reader, store, ())
            other = opposite(reader)
            for at in range(len(marks)):
                for behind in range(at, min(at + 3, len(marks) + 1)):
                    for piece in ([], [0], [1, 0], [1, 1, 0]):
                        spoilt = [*marks[:at], *piece, *marks[behind:]]
                        self.assertIs(verdict(other, store, (), spoilt),
                                      counters.is_counter_paper(reader, store, (), spoilt), (row, spoilt))


if __name__ == "__main__":
    unittest.main()
