"""[18]: the page of a reader, there and back, and the number of the line of a text that is no page."""

import unittest

from helper import raised, told
from oncethrough.readers import Reader
from test_readers import CELLS, GOOD

SAMPLE = Reader((0, 0, 2), (("read", 1), ("same", 0, 1, 4), ("link", "road", 0, 1, 7), ("zero", 2), ("has", "red", 1, 6),
                            ("copy", 2, 2), ("jump", 0), ("end",)), inputs=1)
PAGE = ("inputs 1\ncell 0\ncell 0\ncell 2\nread 1\nsame 0 1 4\nlink road 0 1 7\nzero 2\nhas red 1 6\ncopy 2 2\njump 0\nend")
LINES = PAGE.split("\n")


class Pages(unittest.TestCase):
    def test_page(self):
        self.assertEqual(SAMPLE.page(), PAGE)
        self.assertEqual(Reader.read(PAGE), SAMPLE)
        self.assertEqual(Reader.read(text=PAGE), SAMPLE)
        self.assertEqual(SAMPLE.read(PAGE), SAMPLE)
        self.assertEqual(Reader([], [("end",)]).page(), "inputs 0\nend")

    def check(self, reader):
        found = Reader.read(reader.page())
        self.assertEqual((found.cells, found.rows, found.inputs), (reader.cells, reader.rows, reader.inputs))
        self.assertEqual(found, reader)
        self.assertEqual(found.page(), reader.page())

    def test_there_and_back(self):
        for inputs in range(3):
            self.check(Reader(CELLS, GOOD, inputs=inputs))
        for row in GOOD:
            for last in (("jump", 9), ("refuse",), ("end",)):
                self.check(Reader(CELLS, [row] * 12 + [last]))
        for row in (("end",), ("refuse",), ("jump", 0)):
            self.check(Reader([], [row]))
            self.check(Reader([1, 10000, 0], [row]))
            self.check(Reader([0, 0], [row], inputs=2))

    def test_tables_with_names_like_other_words(self):
        names = ("cell", "inputs", "end", "read", "table")
        rows = [("has", name, 0, 0) for name in names] + [("link", "link", 0, 0, 1), ("end",)]
        self.check(Reader([0], rows))

    def test_the_greatest(self):
        self.check(Reader([0] * 300, [("link", "road", 299, 298, 9999)] * 9999 + [("jump", 9998)], inputs=300))


class NoPages(unittest.TestCase):
    def check(self, lines, line):
        text = lines if isinstance(lines, str) else "\n".join(lines)
        self.assertEqual(told(raised(Reader.read, text)), ("InvalidText", {"line": line}), text[:200])

    def spoil(self, at, line, expected=None):
        """Checks the page with another line at this place."""
        self.check([*LINES[:at], line, *LINES[at + 1:]], at if expected is None else expected)

    def test_the_empty_text(self):
        self.check("", 0)
        self.check("\n", 0)
        self.check("\n" + PAGE, 0)

    def test_other_values(self):
        for value in (None, 3, True, (), ["inputs 0", "end"]):
            self.assertEqual(told(raised(Reader.read, value)), ("InvalidText", {"line": 0}))

    def test_first_lines(self):
        for first in ("", " ", "inputs", "inputs ", "inputs 01", "inputs -1", "inputs +1", "inputs one", "inputs 1 ", " inputs 1",
                      "inputs  1", "inputs 1 1", "Inputs 1", "input 1", "1", "cell 0", "end", "inputs 301", "inputs 1000000",
                      "inputs 1000000000000000", "inputs True", "inputs 1.0", "things 1"):
            self.spoil(0, first)
            self.check([first], 0)

    def test_missing_lines(self):
        for many in range(1, 5):
            self.check(LINES[:many], many)
        self.check(["inputs 2", "cell 0"], 2)
        self.check(["inputs 300", *["cell 0"] * 300], 301)
        self.check(["inputs 0"], 1)
        self.check(["inputs 0", "cell 5"], 2)

    def test_spoilt_cells(self):
        for line in ("", " ", "cell", "cell ", "cell 00", "cell 02", "cell -1", "cell +0", "cell 10001", "cell x", "cell 0 0",
                     "cell 0 ", " cell 0", "cell  0", "cell 1000000000000000", "cells 0", "Cell 0", "0", "inputs 1"):
            for at in (1, 2, 3):
                self.spoil(at, line)

    def test_inputs_are_wide(self):
        for line in ("cell 1", "cell 2", "cell 10000"):
            self.spoil(1, line)
        self.check(["inputs 3", "cell 0", "cell 0", "cell 1", "end"], 3)
        self.check(["inputs 2", "cell 0", "end"], 2)
        self.check(["inputs 1", "end"], 1)
        self.check(["inputs 1", "read 0", "end"], 1)

    def test_numbers_of_cells(self):
        self.check(["inputs 0", *["cell 0"] * 301, "end"], 301)
        self.check(["inputs 5", *["cell 0"] * 302, "end"], 301)
        self.assertEqual(len(Reader.read("\n".join(["inputs 0", *["cell 0"] * 300, "end"])).cells), 300)

    def test_a_cell_behind_a_row(self):
        self.check([*LINES[:5], "cell 0", *LINES[5:]], 5)
        self.check([*LINES, "cell 0"], len(LINES))
        self.check([*LINES, "inputs 1"], len(LINES))

    def test_rows_by_their_words(self):
        wrong = {4: ("read", "read ", "read x", "read 01", "read -1", "read +1", "read 1 1", "read  1", " read 1", "read 1 ", "reed 1",
                     "Read 1", "1", "", " ", "read red", "read 1000000000000000", "read True", "read 1.0", "read\t1"),
                 5: ("same 0 1", "same 0 1 4 4", "same a 1 4", "same 0 b 4", "same 0 1 x", "same 0 1 04", "same", "less 0 1"),
                 6: ("link road 0 1", "link road 0 1 7 7", "link Road 0 1 7", "link abcdefg 0 1 7", "link 0 0 1 7", "link  0 1 7",
                     "link road road 1 7", "link road 0 1 -7", "link r2 0 1 7", "link"),
                 8: ("has red 1", "has red 1 6 6", "has Red 1 6", "has red x 6", "has red 1 x", "has 1 red 6", "has", "has red"),
                 9: ("copy 2", "copy 2 2 2", "copy", "copy 2 a"),
                 10: ("jump", "jump 0 0", "jump a", "jump 00", "jump -1"),
                 11: ("end 0", "end ", " end", "refuse 0", "End", "ends", "zero", "top 0 0", "up")}
        for at in wrong:
            for line in wrong[at]:
                self.spoil(at, line)
                self.check([*LINES[:at], line], at)

    def test_rows_that_name_what_there_is_not(self):
        wrong = {4: ("read 3", "zero 3", "top 99", "up 3", "copy 3 0", "copy 0 3", "read 999999999999999"),
                 5: ("same 3 1 4", "same 0 3 4", "same 0 1 8", "less 3 0 0", "less 0 3 0", "less 0 0 8"),
                 6: ("link road 3 1 7", "link road 0 3 7", "link road 0 1 8", "link road 0 1 999999999999999"),
                 8: ("has red 3 6", "has red 1 8", "has road 1 6"),
                 10: ("jump 8", "jump 10000", "link red 0 0 0"),
                 11: ("jump 8",)}
        for at in wrong:
            for line in wrong[at]:
                self.spoil(at, line)

    def test_words_come_ahead_of_what_is_named(self):
        lines = list(LINES)
        lines[4] = "read 3"
        self.check(lines, 4)
        lines[8] = "has road 1 6"
        self.check(lines, 4)
        for line in ("red 1", "", "jump x", "cell 0"):
            self.check([*lines[:9], line, *lines[10:]], 9)
            self.check([*lines, line], 12)
        lines[11] = "up 0"
        self.check(lines, 4)
        lines[4] = "read 1"
        self.check(lines, 8)
        lines[8] = "has red 1 6"
        self.check(lines, 11)

    def test_tables_with_two_numbers_of_places(self):
        top = ["inputs 0", "cell 0"]
        self.check([*top, "has red 0 0", "link red 0 0 0", "end"], 3)
        self.check([*top, "link red 0 0 0", "end", "has red 0 0"], 4)
        self.check([*top, "link red 0 0 0", "has red 0 0", "read 5", "end"], 3)
        self.check([*top, "link red 0 0 0", "read 5", "has red 0 0", "end"], 3)

    def test_last_rows(self):
        for line in ("read 0", "zero 0", "top 0", "up 0", "copy 0 0", "same 0 0 0", "less 0 0 0", "has red 0 0", "link road 0 0 0"):
            self.spoil(11, line)
            self.check(["inputs 0", "cell 0", line], 2)
        for line in ("jump 7", "refuse", "end"):
            Reader.read("\n".join([*LINES[:11], line]))

    def check_lines(self, lines, line):
        """Checks the number of the line, or with None that the lines are a page of another reader."""
        if line is not None:
            self.check(lines, line)
        else:
            self.assertEqual(Reader.read("\n".join(lines)).page(), "\n".join(lines))

    def test_doubled_lines(self):
        self.check([LINES[0], *LINES], 1)
        for at in range(1, len(LINES)):
            self.check_lines([*LINES[:at + 1], *LINES[at:]], None)

    def test_lines_left_out(self):
        # Without one of the cells, the row zero names a cell that there is not; without a row, the row link names a row.
        expected = (0, 6, 6, 6, 5, 5, None, 6, 6, 6, 6, 6)
        for at, line in enumerate(expected):
            self.check_lines([*LINES[:at], *LINES[at + 1:]], line)

    def test_exchanged_lines(self):
        expected = {(0, 1): 0, (1, 3): 1, (3, 4): 4, (0, 11): 0, (10, 11): None, (4, 11): 11, (6, 8): None}
        for (one, two), line in expected.items():
            lines = list(LINES)
            lines[one], lines[two] = lines[two], lines[one]
            self.check_lines(lines, line)

    def test_a_line_feed_at_the_end(self):
        self.check(PAGE + "\n", len(LINES))
        self.check(PAGE + "\n\n", len(LINES))
        self.check("inputs 0\n", 1)
        self.check("inputs 0\ncell 0\n", 2)
        for at in range(1, len(LINES)):
            self.check([*LINES[:at], "", *LINES[at:]], at)

    def test_blanks_too_many(self):
        for at in range(len(LINES)):
            self.spoil(at, LINES[at] + " ")
            self.spoil(at, " " + LINES[at])
            if " " in LINES[at]:
                self.spoil(at, LINES[at].replace(" ", "  ", 1))

    def test_numbers_of_rows(self):
        rows = ["jump 0"] * 10000
        self.assertEqual(len(Reader.read("\n".join(["inputs 0", *rows]))), 10000)
        self.check(["inputs 0", *rows, "end"], 10001)
        self.check(["inputs 0", "cell 4", *rows, "end", "end"], 10002)
        self.check(["inputs 0", "cell 4", "read 9", *rows], 10002)
        self.check(["inputs 0", *rows, "x"], 10001)


if __name__ == "__main__":
    unittest.main()
