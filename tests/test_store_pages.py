"""[18]: the page of a store, there and back, and the number of the line of a text that is no page."""

import unittest

from helper import raised, told
from oncethrough.stores import Store

PAGE = "things 3\ntable blue 1\ntable red 1\nrow 0\nrow 2\ntable road 2\nrow 0 1\nrow 1 0\nrow 1 2"
LINES = PAGE.split("\n")


def every_row(size, places):
    rows = [(thing,) for thing in range(size)]
    return rows if places == 1 else [row + more for row in rows for more in rows]


class Pages(unittest.TestCase):
    def test_page(self):
        store = Store(3, {"road": (2, [(1, 2), (0, 1), (1, 0)]), "red": (1, [(2,), (0,)]), "blue": (1, [])})
        self.assertEqual(store.page(), PAGE)
        self.assertEqual(Store.read(PAGE), store)
        self.assertEqual(Store.read(text=PAGE), store)
        self.assertEqual(store.read(PAGE), store)
        self.assertEqual(Store(1, {}).page(), "things 1")

    def test_there_and_back(self):
        for size in range(1, 9):
            for tables in ({}, {"a": (1, [])}, {"a": (2, [])}, {"z": (1, every_row(size, 1))},
                           {"z": (2, every_row(size, 2)), "y": (2, []), "abcdef": (1, every_row(size, 1)), "x": (1, [])},
                           {"row": (1, []), "table": (2, [(0, 0)]), "things": (1, [(size - 1,)])}):
                store = Store(size, tables)
                self.assertEqual(Store.read(store.page()), store)
                self.assertEqual(Store.read(store.page()).page(), store.page())


class NoPages(unittest.TestCase):
    def check(self, lines, line):
        text = lines if isinstance(lines, str) else "\n".join(lines)
        self.assertEqual(told(raised(Store.read, text)), ("InvalidText", {"line": line}), text)

    def test_first_lines(self):
        for first in ("", " ", "thing 3", "things", "things ", "things 0", "things 9", "things 03", "things 3 ", " things 3",
                      "things  3", "things +3", "things three", "things 3 3", "Things 3", "things 10", "things -1",
                      "table red 1", "row 0", "things " + "1" * 20, "3", "size 3", "things\t3"):
            self.check(first, 0)
            self.check([first, *LINES[1:]], 0)

    def test_empty(self):
        self.check("", 0)
        self.check("\n", 0)
        self.check("\n" + PAGE, 0)
        self.check("things 3\n", 1)

    def test_other_values(self):
        for value in (None, 3, True, (), ["things 3"], ("things 3",)):
            self.check_value(value)

    def check_value(self, value):
        self.assertEqual(told(raised(Store.read, value)), ("InvalidText", {"line": 0}))

    def test_spoilt_table_lines(self):
        for line in ("", " ", "table", "table red", "table red ", "table red 0", "table red 3", "table red 01", "table red 1 ",
                     "table red 1 1", " table red 1", "table  red 1", "table red  1", "table Red 1", "table abcdefg 1",
                     "table r1 1", "table  1", "Table red 1", "tables red 1", "red 1", "table 1 red", "table red one",
                     "table red -1", "table red +1", "things 3", "TABLE red 1", "row", "claim red"):
            self.check([*LINES[:2], line, *LINES[3:]], 2)
            self.check([*LINES[:2], line], 2)

    def test_spoilt_row_lines(self):
        for line in ("", " ", "row", "row ", "row 3", "row -1", "row 00", "row 02", "row 2 ", " row 2", "row  2", "row +2",
                     "row 0 1", "row 2 2", "row a", "rows 2", "Row 2", "2", "row two", "row 9999999999999999", "row 0",
                     "table red 1", "table a 1", "yes red 2", "row 2\r"):
            self.check([*LINES[:4], line, *LINES[5:]], 4)
            self.check([*LINES[:4], line], 4)
        for line in ("row", "row 1", "row 1 3", "row 3 1", "row 1 00", "row 1 0 0", "row 1  0", "row 1 0 ", "row 0 1",
                     "row 0 0", "row 1 -1", "row 1 x"):
            self.check([*LINES[:7], line, *LINES[8:]], 7)

    def test_a_row_ahead_of_the_tables(self):
        self.check(["things 3", "row 0", *LINES[1:]], 1)
        self.check(["things 3", "row 0 1"], 1)

    def test_doubled_lines(self):
        for at in range(len(LINES)):
            self.check([*LINES[:at + 1], *LINES[at:]], at + 1)

    def test_exchanged_lines(self):
        expected = {(0, 1): 0, (1, 2): 2, (3, 4): 4, (6, 7): 7, (7, 8): 8, (2, 5): 3, (4, 5): 5}
        for (one, two), line in expected.items():
            lines = list(LINES)
            lines[one], lines[two] = lines[two], lines[one]
            self.check(lines, line)

    def test_lines_left_out(self):
        # Without its own table line, a row of two things comes to stand in the table red.
        expected = {0: 0, 5: 5}
        for at, line in expected.items():
            self.check([*LINES[:at], *LINES[at + 1:]], line)
        for at in (1, 2, 3, 4, 6, 7, 8):
            self.assertEqual(Store.read("\n".join([*LINES[:at], *LINES[at + 1:]])).page(),
                             "\n".join([*LINES[:at], *LINES[at + 1:]]))

    def test_line_feeds_and_blanks_too_many(self):
        self.check(PAGE + "\n", len(LINES))
        self.check(PAGE + "\n\n", len(LINES))
        for at in range(1, len(LINES)):
            self.check([*LINES[:at], "", *LINES[at:]], at)
        for at in range(len(LINES)):
            self.check([*LINES[:at], LINES[at] + " ", *LINES[at + 1:]], at)
            self.check([*LINES[:at], " " + LINES[at], *LINES[at + 1:]], at)
            self.check([*LINES[:at], LINES[at].replace(" ", "  ", 1), *LINES[at + 1:]], at)

    def test_more_tables_than_there_may_be(self):
        four = ["things 2", "table a 1", "table b 1", "table c 2", "row 1 1", "table d 1"]
        self.assertEqual(Store.read("\n".join(four)).tables(), ["a", "b", "c", "d"])
        self.check([*four, "table e 1"], 6)
        self.check([*four, "row 1", "table e 1", "row 0"], 7)

    def test_names_not_ascending(self):
        self.check(["things 2", "table b 1", "table a 1"], 2)
        self.check(["things 2", "table b 1", "table b 2"], 2)
        self.check(["things 2", "table b 1", "row 0", "table c 1", "table bb 1"], 4)

    def test_the_first_wrong_line_counts(self):
        self.check(["things 3", "table red 1", "row 2", "row 1", "table a 7", ""], 3)

    def test_things_beyond_the_size(self):
        self.check(["things 1", "table red 1", "row 0", "row 1"], 3)
        self.check(["things 8", "table red 2", "row 0 7", "row 0 8"], 3)

    def test_rows_begin_anew_in_each_table(self):
        page = "things 2\ntable a 1\nrow 1\ntable b 1\nrow 0"
        self.assertEqual(Store.read(page), Store(2, {"a": (1, [(1,)]), "b": (1, [(0,)])}))


if __name__ == "__main__":
    unittest.main()
