"""[10] and the interface of readers.py, without the pages."""

import unittest

from helper import ODD_VALUES, raised, told
from oncethrough.readers import Reader

# One good row of each kind, for a reader with at least three cells and thirteen rows.
GOOD = (
    ("read", 0), ("zero", 1), ("top", 2), ("up", 0), ("copy", 1, 2), ("same", 0, 1, 12), ("less", 2, 2, 0),
    ("has", "red", 1, 5), ("link", "road", 0, 2, 7), ("jump", 3), ("refuse",), ("end",), ("refuse",),
)
CELLS = (0, 0, 2, 10000, 1)

# How many items behind the first word are cells and rows, and where they stand.
CELL_ITEMS = {"read": (1,), "zero": (1,), "top": (1,), "up": (1,), "copy": (1, 2), "same": (1, 2), "less": (1, 2),
              "has": (2,), "link": (2, 3), "jump": (), "refuse": (), "end": ()}
ROW_ITEMS = {"same": 3, "less": 3, "has": 3, "link": 4, "jump": 1}

WRONG_NUMBERS = (-1, 10 ** 14, True, False, None, "", "0", "red", (), (0,), [0], ((0,),))
WRONG_NAMES = ("", "Red", "abcdefg", "r2", "a b", "red\n", 0, 1, True, None, (), ("red",), ["red"])


def exchanged(at, row):
    """The good rows with another one at this place."""
    return [*GOOD[:at], row, *GOOD[at + 1:]]


class Making(unittest.TestCase):
    def test_what_it_tells(self):
        reader = Reader(CELLS, GOOD, inputs=2)
        self.assertEqual(reader.cells, CELLS)
        self.assertEqual(reader.rows, GOOD)
        self.assertEqual(reader.inputs, 2)
        self.assertEqual(len(reader), 13)
        self.assertEqual(repr(reader), "Reader(5 cells, 13 rows, 2 inputs)")
        self.assertEqual(reader.tables(), {"red": 1, "road": 2})
        self.assertEqual((Reader.MOST, reader.MOST), (10000, 10000))

    def test_kinds(self):
        reader = Reader(list(CELLS), list(GOOD))
        self.assertIs(type(reader.cells), tuple)
        self.assertIs(type(reader.rows), tuple)
        self.assertTrue(all(type(row) is tuple for row in reader.rows))
        self.assertEqual(reader.inputs, 0)
        self.assertEqual(repr(reader), "Reader(5 cells, 13 rows, 0 inputs)")
        self.assertEqual(reader, Reader(CELLS, GOOD))

    def test_the_least(self):
        for row in (("end",), ("refuse",), ("jump", 0)):
            reader = Reader([], [row])
            self.assertEqual((reader.cells, reader.rows, reader.inputs, len(reader)), ((), (row,), 0, 1))
            self.assertEqual(repr(reader), "Reader(0 cells, 1 rows, 0 inputs)")
            self.assertEqual(reader.tables(), {})

    def test_by_name(self):
        reader = Reader(rows=[("end",)], inputs=1, cells=[0])
        self.assertEqual((reader.cells, reader.rows, reader.inputs), ((0,), (("end",),), 1))
        self.assertRaises(TypeError, Reader, [0], [("end",)], 1)

    def test_copies(self):
        cells, rows = [0, 3], [("read", 1), ("end",)]
        reader = Reader(cells, rows, inputs=1)
        cells[1] = 7
        cells.append(0)
        rows[0] = ("zero", 0)
        rows.append(("end",))
        self.assertEqual((reader.cells, reader.rows), ((0, 3), (("read", 1), ("end",))))
        reader.tables()["red"] = 1
        self.assertEqual(reader.tables(), {})
        looking = Reader([0], [("has", "red", 0, 1), ("end",)])
        looking.tables().clear()
        self.assertEqual(looking.tables(), {"red": 1})

    def test_equal(self):
        reader = Reader(CELLS, GOOD, inputs=2)
        self.assertTrue(reader == Reader(list(CELLS), list(GOOD), inputs=2))
        self.assertFalse(reader != Reader(list(CELLS), list(GOOD), inputs=2))
        for other in (Reader(CELLS, GOOD, inputs=1), Reader(CELLS, GOOD), Reader((*CELLS, 0), GOOD, inputs=2),
                      Reader((0, 0, 3, 10000, 1), GOOD, inputs=2), Reader(CELLS, exchanged(0, ("read", 1)), inputs=2),
                      Reader(CELLS, (*GOOD, ("end",)), inputs=2), Reader(CELLS, exchanged(7, ("has", "blue", 1, 5)), inputs=2)):
            self.assertFalse(reader == other)
            self.assertTrue(reader != other)
        for value in (*ODD_VALUES, CELLS, GOOD, repr(reader), reader.page(), [reader], (reader,), {}, object()):
            self.assertFalse(reader == value)
            self.assertFalse(value == reader)
            self.assertTrue(reader != value)

    def test_tables(self):
        rows = [("link", "b", 0, 0, 0), ("has", "d", 0, 1), ("link", "b", 0, 0, 2), ("has", "a", 0, 0), ("end",)]
        self.assertEqual(Reader([0], rows).tables(), {"a": 1, "b": 2, "d": 1})
        many = [("has", name, 0, 0) for name in "abcdefg"]
        self.assertEqual(Reader([0], [*many, ("end",)]).tables(), {name: 1 for name in "abcdefg"})


class Cells(unittest.TestCase):
    def test_most(self):
        self.assertEqual(len(Reader([0] * 300, [("end",)], inputs=300).cells), 300)
        for cells in ([0] * 301, [None] * 301, (0,) * 400):
            self.assertEqual(told(raised(Reader, cells, [], inputs=-1)), ("TooMany", {"most": 300}))

    def test_ranges(self):
        for cell in (0, 1, 2, 9999, 10000):
            self.assertEqual(Reader([cell], [("end",)]).cells, (cell,))
        for cell in (*ODD_VALUES, -1, 10001, True, False, None, "0", "", (0,), [0]):
            for at in range(3):
                cells = [0, 5]
                cells.insert(at, cell)
                self.assertEqual(told(raised(Reader, cells, [])), ("InvalidCell", {"at": at}), repr(cell))
        self.assertEqual(told(raised(Reader, [0, 10001, -1], [("end",)])), ("InvalidCell", {"at": 1}))

    def test_inputs(self):
        for inputs in range(4):
            self.assertEqual(Reader([0, 0, 0], [("end",)], inputs=inputs).inputs, inputs)
        for inputs in (-1, 4, 10 ** 14, True, False, None, "1", "", (), (1,), [1]):
            error = raised(Reader, [0, 0, 0], [], inputs=inputs)
            self.assertEqual(told(error), ("InvalidNumber", {"given": inputs}))
            self.assertIs(type(error.given), type(inputs))
        self.assertEqual(told(raised(Reader, [], [("end",)], inputs=1)), ("InvalidNumber", {"given": 1}))

    def test_inputs_are_wide(self):
        cells = [0, 4, 0, 1]
        for inputs, at in ((2, 1), (3, 1), (4, 1)):
            self.assertEqual(told(raised(Reader, cells, [], inputs=inputs)), ("InvalidCell", {"at": at}))
        self.assertEqual(told(raised(Reader, [0, 0, 8], [], inputs=3)), ("InvalidCell", {"at": 2}))
        self.assertEqual(Reader(cells, [("end",)], inputs=1).inputs, 1)


class Rows(unittest.TestCase):
    def wrong(self, at, row):
        for rows in (exchanged(at, row), tuple(exchanged(at, row))):
            self.assertEqual(told(raised(Reader, CELLS, rows)), ("InvalidStep", {"at": at}), repr(row))

    def test_no_rows(self):
        for rows in ([], ()):
            self.assertEqual(told(raised(Reader, [0], rows)), ("InvalidStep", {"at": 0}))

    def test_most(self):
        rows = [("jump", 9999)] * 9999 + [("end",)]
        self.assertEqual(len(Reader([], rows)), 10000)
        for many in ([*rows, ("end",)], [None] * 10001, (("up", 7),) * 12000):
            self.assertEqual(told(raised(Reader, [], many)), ("TooMany", {"most": 10000}))

    def test_cells_of_rows(self):
        for at, row in enumerate(GOOD):
            for place in CELL_ITEMS[row[0]]:
                for cell in range(len(CELLS)):
                    good = (*row[:place], cell, *row[place + 1:])
                    self.assertEqual(Reader(CELLS, exchanged(at, good)).rows[at], good)
                for cell in (len(CELLS), 300, *WRONG_NUMBERS):
                    self.wrong(at, (*row[:place], cell, *row[place + 1:]))

    def test_rows_that_are_named(self):
        for at, row in enumerate(GOOD):
            place = ROW_ITEMS.get(row[0])
            if place is not None:
                for other in (0, 5, at, 12):
                    good = (*row[:place], other, *row[place + 1:])
                    self.assertEqual(Reader(CELLS, exchanged(at, good)).rows[at], good)
                for other in (13, 9999, *WRONG_NUMBERS):
                    self.wrong(at, (*row[:place], other, *row[place + 1:]))

    def test_names_of_tables(self):
        for at in (7, 8):
            for name in ("a", "abcdef", "has", "end"):
                good = (GOOD[at][0], name, *GOOD[at][2:])
                self.assertEqual(Reader(CELLS, exchanged(at, good)).rows[at], good)
            for name in WRONG_NAMES:
                self.wrong(at, (GOOD[at][0], name, *GOOD[at][2:]))

    def test_first_words(self):
        for at, row in enumerate(GOOD):
            for word in (*WRONG_NAMES, "Read", "reed", "put", "not", "and", "way"):
                self.wrong(at, (word, *row[1:]))
            self.wrong(at, row[1:])

    def test_numbers_of_items(self):
        for at, row in enumerate(GOOD):
            for other in ((*row, 0), (*row, None), (*row, ()), (*row, "red"), row * 2, (row,), ()):
                self.wrong(at, other)
            for left in range(1, len(row)):
                self.wrong(at, (*row[:left], *row[left + 1:]))

    def test_no_tuple(self):
        for at, row in enumerate(GOOD):
            for value in (*ODD_VALUES, list(row), " ".join(str(item) for item in row), row[0], 0, [row]):
                self.wrong(at, value)

    def test_places_of_tables(self):
        has, link = ("has", "red", 0, 0), ("link", "red", 0, 0, 0)
        for one, two in ((has, link), (link, has)):
            for at in range(1, 4):
                rows = [one, ("zero", 0), ("zero", 0)]
                rows.insert(at, two)
                self.assertEqual(told(raised(Reader, [0], [*rows, ("end",)])), ("InvalidStep", {"at": at}))
            self.assertEqual(told(raised(Reader, [0], [one, one, two, one, ("end",)])), ("InvalidStep", {"at": 2}))
            self.assertEqual(told(raised(Reader, [0], [one, one, two, ("up", 9), ("end",)])), ("InvalidStep", {"at": 2}))
            self.assertEqual(told(raised(Reader, [0], [one, ("up", 9), two, ("end",)])), ("InvalidStep", {"at": 1}))

    def test_last_rows(self):
        for row in GOOD:
            rows = [*GOOD[:12], row]
            if row[0] in ("jump", "refuse", "end"):
                self.assertEqual(Reader(CELLS, rows).rows[12], row)
            else:
                self.assertEqual(told(raised(Reader, CELLS, rows)), ("InvalidStep", {"at": 12}))
        self.assertEqual(told(raised(Reader, [0], [("zero", 0)])), ("InvalidStep", {"at": 0}))

    def test_the_first_wrong_row_counts(self):
        rows = [("zero", 0), ("zero", 9), None, ("has", "red", 0, 99), ("zero", 0)]
        self.assertEqual(told(raised(Reader, [0], rows)), ("InvalidStep", {"at": 1}))
        rows[1] = ("zero", 0)
        self.assertEqual(told(raised(Reader, [0], rows)), ("InvalidStep", {"at": 2}))
        rows[2] = ("zero", 0)
        self.assertEqual(told(raised(Reader, [0], rows)), ("InvalidStep", {"at": 3}))
        rows[3] = ("zero", 0)
        self.assertEqual(told(raised(Reader, [0], rows)), ("InvalidStep", {"at": 4}))


class Order(unittest.TestCase):
    def test_the_order_of_the_errors(self):
        cells, rows, inputs = [None, *[0] * 300], [None] * 10001, -1
        self.assertEqual(told(raised(Reader, cells, rows, inputs=inputs)), ("TooMany", {"most": 300}))
        cells = [0, 5, "x"]
        self.assertEqual(told(raised(Reader, cells, rows, inputs=inputs)), ("InvalidCell", {"at": 2}))
        cells[2] = 0
        self.assertEqual(told(raised(Reader, cells, rows, inputs=inputs)), ("InvalidNumber", {"given": -1}))
        self.assertEqual(told(raised(Reader, cells, rows, inputs=3)), ("InvalidCell", {"at": 1}))
        self.assertEqual(told(raised(Reader, cells, rows, inputs=1)), ("TooMany", {"most": 10000}))
        rows = [("zero", 0), ("up", 3), ("up", 0)]
        self.assertEqual(told(raised(Reader, cells, rows, inputs=1)), ("InvalidStep", {"at": 1}))
        rows[1] = ("up", 2)
        self.assertEqual(told(raised(Reader, cells, rows, inputs=1)), ("InvalidStep", {"at": 2}))
        self.assertEqual(told(raised(Reader, cells, [], inputs=1)), ("InvalidStep", {"at": 0}))
        self.assertEqual(cells, [0, 5, 0])
        self.assertEqual(rows, [("zero", 0), ("up", 2), ("up", 0)])


if __name__ == "__main__":
    unittest.main()
