"""[14] and the interface of exploring.py."""

import random
import types
import unittest
from itertools import islice, product

import plainly
from drawn import PLAIN, drawn_pairs, drawn_reader
from helper import ODD_VALUES, raised, told
from oncethrough.exploring import closed_list, counted_papers, is_closed, numbered, papers_of, parted, place_of, shortest
from oncethrough.readers import Reader
from oncethrough.stores import Store
from samples import made

NOTHING = Reader([2], [("read", 0), ("jump", 0)])
EMPTY_ALONE = Reader([], [("end",)])
# Accepts each list of marks 0 and 1 that ends with 1 and has no other 1.
ZEROS = Reader([2, 1], [("read", 0), ("same", 0, 1, 3), ("jump", 0), ("end",)])
# Accepts each list with as many things as it wants, none of which is 0.
THINGS = Reader([0, 2, 1], [("read", 1), ("same", 1, 2, 5), ("read", 0), ("same", 0, 2, 0), ("refuse",), ("end",)])


def listed(reader, store, inputs, length):
    return list(papers_of(reader, store, inputs, length))


def first_item(reader, store, inputs, length):
    for marks in papers_of(reader, store, inputs, length):
        return marks
    return None


# Each function with what stands behind the inputs.
CALLS = {
    "shortest": lambda reader, store, inputs: shortest(reader, store, inputs),
    "closed_list": lambda reader, store, inputs: closed_list(reader, store, inputs),
    "is_closed": lambda reader, store, inputs: is_closed(reader, store, inputs, []),
    "counted_papers": lambda reader, store, inputs: counted_papers(reader, store, inputs, most=-1),
    "papers_of": lambda reader, store, inputs: first_item(reader, store, inputs, -1),
    "numbered": lambda reader, store, inputs: numbered(reader, store, inputs, -1, -1),
    "place_of": lambda reader, store, inputs: place_of(reader, store, inputs, None),
    "parted": lambda reader, store, inputs: parted(reader, reader, store, inputs),
}


class AgainstAllLists(unittest.TestCase):
    MOST = 5

    def each(self, seed, many):
        yield from drawn_pairs(seed, many, 4, 12)

    def test_numbers_and_lists_of_papers(self):
        for reader, store, inputs in self.each(31, 1200):
            papers = plainly.accepted(reader, store, inputs, self.MOST)
            self.assertEqual(counted_papers(reader, store, inputs, most=self.MOST), [len(some) for some in papers])
            for length, some in enumerate(papers):
                self.assertEqual(listed(reader, store, inputs, length), [list(marks) for marks in sorted(some)])
                for at, marks in enumerate(sorted(some)):
                    self.assertEqual(numbered(reader, store, inputs, length, at), list(marks))
                    self.assertEqual(place_of(reader, store, inputs, marks), at)
                    self.assertEqual(place_of(reader, store, inputs, list(marks)), at)
                error = raised(numbered, reader, store, inputs, length, len(some))
                self.assertEqual(told(error), ("InvalidNumber", {"given": len(some)}))

    def test_lists_that_are_no_papers(self):
        for reader, store, inputs in self.each(32, 150):
            papers = plainly.accepted(reader, store, inputs, 3)
            for length in range(4):
                for marks in product(range(4), repeat=length):
                    if marks in papers[length]:
                        self.assertEqual(place_of(reader, store, inputs, marks), sorted(papers[length]).index(marks))
                    else:
                        self.assertEqual(told(raised(place_of, reader, store, inputs, marks)), ("NoPaper", {}))

    def test_shortest_and_closed_lists(self):
        papers_found = closed_found = 0
        for reader, store, inputs in self.each(33, 1200):
            stops = plainly.stops(reader, store, inputs)
            found = shortest(reader, store, inputs)
            if any(reader.rows[row][0] == "end" for row, _ in stops):
                papers_found += 1
                papers = plainly.accepted(reader, store, inputs, len(found))
                self.assertEqual(found, list(min(papers[-1])))
                self.assertEqual(papers[:-1], [[]] * len(found))
                self.assertEqual(told(raised(closed_list, reader, store, inputs)), ("HasPaper", {}))
                self.assertIs(is_closed(reader, store, inputs, stops), False)
            else:
                closed_found += stops != []
                self.assertIsNone(found)
                self.assertEqual(closed_list(reader, store, inputs), stops)
                self.check_closed(reader, store, inputs, stops)
        self.assertGreater(papers_found, 200)
        self.assertGreater(closed_found, 100)

    def check_closed(self, reader, store, inputs, stops):
        self.assertIs(is_closed(reader, store, inputs, stops), True)
        self.assertIs(is_closed(reader, store, inputs, tuple(stops[::-1]) + tuple(stops)), True)
        for at in range(len(stops)):
            left = stops[:at] + stops[at + 1:]
            self.assertIs(is_closed(reader, store, inputs, left), plainly.is_closed(reader, store, inputs, left))
            self.assertIs(is_closed(reader, store, inputs, left), False)
        for stop in plainly.every_stop(reader, store)[::3]:
            more = [*stops, stop]
            self.assertIs(is_closed(reader, store, inputs, more), plainly.is_closed(reader, store, inputs, more))

    def test_drawn_lists_of_stops(self):
        draw = random.Random(34)
        closed = 0
        for reader, store, inputs in self.each(35, 400):
            every = plainly.every_stop(reader, store)
            for _ in range(4):
                stops = [stop for stop in every if draw.random() < 0.8]
                holds = plainly.is_closed(reader, store, inputs, stops)
                closed += holds
                self.assertIs(is_closed(reader, store, inputs, stops), holds)
            waiting = [stop for stop in every if reader.rows[stop[0]][0] == "read"]
            self.assertIs(is_closed(reader, store, inputs, waiting), plainly.is_closed(reader, store, inputs, waiting))
        self.assertGreater(closed, 50)

    def test_parted(self):
        draw = random.Random(36)
        differences = 0
        for one, store, inputs in self.each(37, 1500):
            other = drawn_reader(draw, 4, 12)
            if other.inputs != one.inputs:
                continue
            found = parted(one, other, store, inputs)
            self.assertEqual(parted(other, one, store, inputs), found)
            most = 4 if found is None else min(4, len(found))
            both = [plainly.accepted(each, store, inputs, most) for each in (one, other)]
            odd = [sorted(set(some) ^ set(more)) for some, more in zip(*both)]
            if found is None or len(found) > most:
                self.assertEqual(odd, [[]] * (most + 1))
            else:
                self.assertEqual(odd[:-1], [[]] * most)
                self.assertEqual(found, list(odd[-1][0]))
            if found is not None:
                differences += 1
                self.assertNotEqual(*[plainly.accepts(each, store, inputs, found) for each in (one, other)])
            else:
                self.assertEqual(shortest(one, store, inputs), shortest(other, store, inputs))
        self.assertGreater(differences, 200)


class ByHand(unittest.TestCase):
    def test_the_empty_paper_alone(self):
        self.assertEqual(shortest(EMPTY_ALONE, PLAIN, ()), [])
        self.assertEqual(counted_papers(EMPTY_ALONE, PLAIN, (), most=3), [1, 0, 0, 0])
        self.assertEqual(listed(EMPTY_ALONE, PLAIN, (), 0), [[]])
        self.assertEqual(listed(EMPTY_ALONE, PLAIN, (), 1), [])
        self.assertEqual(numbered(EMPTY_ALONE, PLAIN, (), 0, 0), [])
        self.assertEqual(place_of(EMPTY_ALONE, PLAIN, (), []), 0)
        self.assertEqual(told(raised(closed_list, EMPTY_ALONE, PLAIN, ())), ("HasPaper", {}))
        self.assertIs(is_closed(EMPTY_ALONE, PLAIN, (), [(0, ())]), False)
        self.assertIs(is_closed(EMPTY_ALONE, PLAIN, (), []), False)

    def test_nothing(self):
        self.assertIsNone(shortest(NOTHING, PLAIN, ()))
        self.assertEqual(closed_list(NOTHING, PLAIN, ()), [(0, (0,)), (0, (1,))])
        self.assertEqual(counted_papers(NOTHING, PLAIN, ()), [0] * 21)
        self.assertEqual(listed(NOTHING, PLAIN, (), 40), [])
        refused = Reader([], [("refuse",)])
        self.assertIsNone(shortest(refused, PLAIN, ()))
        self.assertEqual(closed_list(refused, PLAIN, ()), [])
        self.assertIs(is_closed(refused, PLAIN, (), []), True)
        self.assertEqual(counted_papers(refused, PLAIN, (), most=2), [0, 0, 0])
        self.assertEqual(listed(refused, PLAIN, (), 0), [])
        self.assertEqual(told(raised(numbered, refused, PLAIN, (), 0, 0)), ("InvalidNumber", {"given": 0}))
        self.assertEqual(told(raised(place_of, refused, PLAIN, (), [])), ("NoPaper", {}))

    def test_more_and_more_papers(self):
        self.assertEqual(shortest(ZEROS, PLAIN, ()), [1])
        self.assertEqual(counted_papers(ZEROS, PLAIN, (), most=40), [0] + [1] * 40)
        self.assertEqual(listed(ZEROS, PLAIN, (), 40), [[0] * 39 + [1]])
        store = made(4, [], [])
        self.assertEqual(shortest(THINGS, store, ()), [1])
        # A bit 0 stands ahead of each thing that is no 0; the bit 1 is at the end.
        reader = Reader([0, 2, 1], [("read", 1), ("same", 1, 2, 5), ("read", 0), ("same", 0, 2, 0), ("refuse",), ("end",)])
        self.assertEqual(counted_papers(reader, store, (), most=5), [0, 1, 0, 3, 0, 9])
        self.assertEqual(counted_papers(reader, store, (), most=39)[39], 3 ** 19)
        self.assertEqual(listed(reader, store, (), 3), [[0, 1, 1], [0, 2, 1], [0, 3, 1]])
        self.assertEqual(numbered(reader, store, (), 39, 3 ** 19 - 1), [0, 3] * 19 + [1])
        self.assertEqual(numbered(reader, store, (), 39, 5), [0, 1] * 17 + [0, 2, 0, 3, 1])
        self.assertEqual(place_of(reader, store, (), [0, 1] * 17 + [0, 2, 0, 3, 1]), 5)
        self.assertEqual(list(islice(papers_of(reader, store, (), 39), 4)),
                         [[0, 1] * 18 + [0, 1, 1], [0, 1] * 18 + [0, 2, 1], [0, 1] * 18 + [0, 3, 1],
                          [0, 1] * 17 + [0, 2, 0, 1, 1]])

    def test_more_papers_than_can_be_gone_through(self):
        reader = Reader([0], [("read", 0)] * 40 + [("end",)])
        store = made(8, [], [])
        self.assertEqual(counted_papers(reader, store, (), most=40), [0] * 40 + [8 ** 40])
        self.assertEqual(first_item(reader, store, (), 40), [0] * 40)
        self.assertEqual(list(islice(papers_of(reader, store, (), 40), 9))[8], [0] * 38 + [1, 0])
        self.assertEqual(numbered(reader, store, (), 40, 10 ** 14), [int(sign) for sign in oct(10 ** 14)[2:].zfill(40)])
        self.assertEqual(place_of(reader, store, (), [7] * 40), 8 ** 40 - 1)

    def test_the_greater_mark_may_be_shorter(self):
        reader = Reader([2, 1], [("read", 0), ("same", 0, 1, 4), ("read", 0), ("end",), ("end",)])
        self.assertEqual(shortest(reader, PLAIN, ()), [1])
        self.assertEqual(counted_papers(reader, PLAIN, (), most=3), [0, 1, 2, 0])
        same = Reader([2, 1], [("read", 0), ("same", 0, 1, 3), ("jump", 3), ("read", 0), ("end",)])
        self.assertEqual(shortest(same, PLAIN, ()), [0, 0])
        self.assertEqual(parted(reader, same, PLAIN, ()), [1])
        self.assertEqual(parted(same, reader, PLAIN, ()), [1])
        self.assertIsNone(parted(same, Reader([2], [("read", 0), ("read", 0), ("end",)]), PLAIN, ()))

    def test_marks_that_one_reader_alone_takes(self):
        wide, narrow = Reader([0], [("read", 0), ("end",)]), Reader([2], [("read", 0), ("end",)])
        for size, found in ((1, [1]), (2, None), (3, [2]), (8, [2])):
            self.assertEqual(parted(wide, narrow, made(size, [], []), ()), found)
            self.assertEqual(parted(narrow, wide, made(size, [], []), ()), found)
        self.assertIsNone(parted(NOTHING, Reader([], [("refuse",)]), PLAIN, ()))
        self.assertEqual(parted(NOTHING, EMPTY_ALONE, PLAIN, ()), [])
        self.assertEqual(parted(ZEROS, NOTHING, PLAIN, ()), [1])

    def test_a_difference_far_away(self):
        def accepts_every(many):
            """Accepts so many marks 0 and a 1, if the number of marks 0 can be divided by many."""
            rows = [("top", 3), ("read", 0), ("same", 0, 2, 8), ("same", 1, 3, 6), ("zero", 1), ("jump", 1), ("up", 1),
                    ("jump", 1), ("same", 1, 2, 10), ("end",), ("refuse",)]
            return Reader([2, many, 1, many], rows)

        for one, other in ((30, 42), (42, 30), (1, 2), (7, 700), (500, 7), (30, 60)):
            self.assertEqual(parted(accepts_every(one), accepts_every(other), PLAIN, ()), [0] * min(one, other) + [1])
        self.assertIsNone(parted(accepts_every(700), accepts_every(700), PLAIN, ()))
        self.assertEqual(parted(accepts_every(5), ZEROS, PLAIN, ()), [0, 1])
        self.assertIsNone(parted(accepts_every(1), ZEROS, PLAIN, ()))
        rows = [("read", 0)] * 700 + [("end",)]
        self.assertEqual(parted(Reader([1], rows), Reader([1], rows[1:]), PLAIN, ()), [0] * 699)

    def test_inputs_and_stores_matter(self):
        reader = Reader([0, 0], [("read", 1), ("link", "road", 0, 1, 3), ("end",), ("refuse",)], inputs=1)
        store = made(4, [], [(0, 2), (0, 3), (1, 0)])
        for thing, papers in ((0, [[2], [3]]), (1, [[0]]), (2, []), (3, [])):
            self.assertEqual(listed(reader, store, (thing,), 1), papers)
            self.assertEqual(shortest(reader, store, [thing]), papers[0] if papers else None)

    def test_kinds_of_values(self):
        self.assertIsInstance(papers_of(NOTHING, PLAIN, (), 1), types.GeneratorType)
        for value in (shortest(ZEROS, PLAIN, ()), numbered(ZEROS, PLAIN, (), 3, 0), first_item(ZEROS, PLAIN, (), 3),
                      closed_list(NOTHING, PLAIN, ()), counted_papers(ZEROS, PLAIN, ()), parted(ZEROS, NOTHING, PLAIN, ())):
            self.assertIs(type(value), list)
        for row, cells in closed_list(NOTHING, PLAIN, ()):
            self.assertIs(type(cells), tuple)
        found = list(papers_of(THINGS, made(3, [], []), (), 3))
        found[0].append(9)
        self.assertEqual(found, [[0, 1, 1, 9], [0, 2, 1]])

    def test_by_name(self):
        self.assertEqual(shortest(inputs=(), store=PLAIN, reader=ZEROS), [1])
        self.assertEqual(closed_list(inputs=(), store=PLAIN, reader=NOTHING), [(0, (0,)), (0, (1,))])
        self.assertIs(is_closed(stops=[], inputs=(), store=PLAIN, reader=NOTHING), False)
        self.assertEqual(counted_papers(most=1, inputs=(), store=PLAIN, reader=ZEROS), [0, 1])
        self.assertEqual(list(papers_of(length=2, inputs=(), store=PLAIN, reader=ZEROS)), [[0, 1]])
        self.assertEqual(numbered(at=0, length=2, inputs=(), store=PLAIN, reader=ZEROS), [0, 1])
        self.assertEqual(place_of(marks=[0, 1], inputs=(), store=PLAIN, reader=ZEROS), 0)
        self.assertEqual(parted(inputs=(), store=PLAIN, other=NOTHING, one=ZEROS), [1])
        self.assertRaises(TypeError, counted_papers, ZEROS, PLAIN, (), 3)


class ClosedLists(unittest.TestCase):
    # Waits at row 0 with any number in its cell, and at row 2, where no mark of row 0 leads.
    READER = Reader([2, 3], [("read", 0), ("jump", 0), ("read", 1), ("end",)])
    STOPS = [(0, (0, 0)), (0, (1, 0))]

    def closed(self, stops):
        return is_closed(self.READER, PLAIN, (), stops)

    def test_lists(self):
        self.assertEqual(closed_list(self.READER, PLAIN, ()), self.STOPS)
        self.assertIs(self.closed(self.STOPS), True)
        self.assertIs(self.closed(tuple(self.STOPS)), True)
        self.assertIs(self.closed([*self.STOPS, *self.STOPS, self.STOPS[0]]), True)
        self.assertIs(self.closed([self.STOPS[1], self.STOPS[0]]), True)
        self.assertIs(self.closed([]), False)
        self.assertIs(self.closed(self.STOPS[:1]), False)
        self.assertIs(self.closed(self.STOPS[1:]), False)

    def test_further_stops(self):
        # These lead to one another alone.
        further = [(0, (0, 2)), (0, (1, 2))]
        self.assertIs(self.closed([*self.STOPS, *further]), True)
        self.assertIs(self.closed([*self.STOPS, further[0]]), False)
        self.assertIs(self.closed(further), False)
        # At row 2 each mark leads to the end.
        self.assertIs(self.closed([*self.STOPS, (2, (0, 0))]), False)
        self.assertIs(self.closed([*self.STOPS, (2, (0, 0)), (3, (0, 0)), (3, (0, 1)), (3, (0, 2))]), False)
        self.assertIs(self.closed([*self.STOPS, (3, (0, 0))]), False)

    def test_what_is_no_stop(self):
        for value in (*ODD_VALUES, 0, [0, (0, 0)], (0, [0, 0]), [0, [0, 0]], (0, (0, 0), 0), (0,), ((0, 0), 0), (0, 0, 0),
                      (0, (0,)), (0, (0, 0, 0)), (0, (2, 0)), (0, (0, 3)), (0, (-1, 0)), (0, (True, 0)), (0, (0, False)),
                      (0, (0, None)), (0, ("0", 0)), (0, (0, (0,))), (0, (0, [0])), (True, (0, 0)), (False, (0, 0)), (1, (0, 0)),
                      (4, (0, 0)), (-1, (0, 0)), (None, (0, 0)), ("0", (0, 0)), ((0,), (0, 0)), ([0], (0, 0)), (0, "00"), "0 0",
                      (10 ** 14, (0, 0)), (0, (10 ** 14, 0))):
            self.assertIs(self.closed([*self.STOPS, value]), False, repr(value))
            self.assertIs(self.closed([value, *self.STOPS]), False, repr(value))
            self.assertIs(self.closed([value]), False, repr(value))

    def test_a_list_in_the_place_of_a_tuple(self):
        for at in (0, 1):
            for stop in ([self.STOPS[at][0], self.STOPS[at][1]], (self.STOPS[at][0], list(self.STOPS[at][1]))):
                self.assertIs(self.closed([stop, self.STOPS[1 - at]]), False)

    def test_what_is_no_list(self):
        for value in (None, 0, "", "ab", True):
            self.assertIs(self.closed(value), False)

    def test_a_reading_that_is_refused_at_once(self):
        reader = Reader([0, 2], [("up", 0), ("has", "red", 0, 4), ("read", 1), ("jump", 2), ("refuse",)], inputs=1)
        store = made(2, [], [])
        self.assertEqual(closed_list(reader, store, (0,)), [])
        self.assertIs(is_closed(reader, store, (0,), []), True)
        self.assertIs(is_closed(reader, store, (0,), [(2, (1, 0)), (2, (1, 1))]), True)
        self.assertIs(is_closed(reader, store, (0,), [(2, (1, 0))]), False)
        self.assertIs(is_closed(reader, store, (0,), [(2, (1, 5))]), False)
        self.assertIs(is_closed(reader, store.put("red", 1), (0,), []), False)


def chain(many):
    """A reader with just so many stops that can be reached, and none at an end."""
    return Reader([1], [("read", 0)] * (many - 1) + [("read", 0), ("refuse",)])


def wide_chain(many):
    """The same with stops that differ in a cell alone."""
    return Reader([many], [("read", 0), ("jump", 0)])


class TooManyStops(unittest.TestCase):
    def test_2000_and_2001(self):
        for made_of in (chain, wide_chain):
            good, bad = made_of(2000), made_of(2001)
            for name, call in CALLS.items():
                self.assertEqual(told(raised(call, bad, PLAIN, ())), ("TooMany", {"most": 2000}), name)
            self.assertIsNone(shortest(good, PLAIN, ()))
            self.assertEqual(len(closed_list(good, PLAIN, ())), 2000)
            self.assertIs(is_closed(good, PLAIN, (), closed_list(good, PLAIN, ())), True)
            self.assertIs(is_closed(good, PLAIN, (), closed_list(good, PLAIN, ())[:-1]), False)
            self.assertEqual(counted_papers(good, PLAIN, (), most=40), [0] * 41)
            self.assertEqual(listed(good, PLAIN, (), 40), [])
            self.assertEqual(told(raised(numbered, good, PLAIN, (), 40, 0)), ("InvalidNumber", {"given": 0}))
            self.assertEqual(told(raised(place_of, good, PLAIN, (), [])), ("NoPaper", {}))
            self.assertIsNone(parted(good, good, PLAIN, ()))

    def test_ends_are_stops_too(self):
        good = Reader([1999], [("read", 0), ("end",)])
        bad = Reader([2000], [("read", 0), ("end",)])
        self.assertEqual(shortest(good, PLAIN, ()), [0])
        self.assertEqual(counted_papers(good, PLAIN, (), most=2), [0, 1999, 0])
        self.assertEqual(numbered(good, PLAIN, (), 1, 1998), [1998])
        self.assertEqual(listed(good, PLAIN, (), 1), [[mark] for mark in range(1999)])
        for name, call in CALLS.items():
            self.assertEqual(told(raised(call, bad, PLAIN, ())), ("TooMany", {"most": 2000}), name)

    def test_stops_that_cannot_be_reached_do_not_count(self):
        reader = Reader([100, 100, 2], [("read", 2), ("jump", 0), ("read", 0), ("read", 1), ("end",)])
        self.assertEqual(len(closed_list(reader, PLAIN, ())), 2)

    def test_more_marks_than_stops(self):
        reader = Reader([10000, 2], [("read", 0), ("zero", 0), ("read", 1), ("end",)])
        self.assertEqual(counted_papers(reader, PLAIN, (), most=3), [0, 0, 20000, 0])
        self.assertEqual(numbered(reader, PLAIN, (), 2, 19999), [9999, 1])
        self.assertEqual(place_of(reader, PLAIN, (), [5000, 1]), 10001)


class Errors(unittest.TestCase):
    TWO = Reader([0, 0], [("has", "red", 0, 2), ("link", "road", 0, 1, 2), ("end",)], inputs=2)
    MANY = Reader([0, 2001], [("has", "red", 0, 1), ("read", 1), ("jump", 1)], inputs=1)

    def test_unfit_then_inputs_then_too_many(self):
        for name, call in CALLS.items():
            for inputs in ((0,), (9,), None):
                self.assertEqual(told(raised(call, self.MANY, Store(2, {}), inputs)), ("Unfit", {"name": "red"}), name)
                self.assertEqual(told(raised(call, self.TWO, Store(2, {"red": (1, [])}), inputs)), ("Unfit", {"name": "road"}))
            for inputs in ((), (2,), (True,), [0, 1], None, "0", 5):
                given = tuple(inputs) if isinstance(inputs, (list, tuple)) else (inputs,)
                self.assertEqual(told(raised(call, self.MANY, PLAIN, inputs)), ("InvalidInputs", {"given": given}), name)
            self.assertEqual(told(raised(call, self.MANY, PLAIN, (0,))), ("TooMany", {"most": 2000}), name)

    def test_closed_list_with_a_paper_and_too_many_stops(self):
        reader = Reader([2001, 1], [("read", 0), ("same", 0, 1, 3), ("end",), ("read", 0), ("jump", 0)])
        self.assertEqual(told(raised(closed_list, reader, PLAIN, ())), ("TooMany", {"most": 2000}))
        self.assertEqual(told(raised(shortest, reader, PLAIN, ())), ("TooMany", {"most": 2000}))

    def test_most_and_length(self):
        for value in (*ODD_VALUES, -1, 41, 10 ** 14, True, False, "0", (1,), [1]):
            expected = ("InvalidNumber", {"given": value})
            error = raised(counted_papers, ZEROS, PLAIN, (), most=value)
            self.assertEqual(told(error), expected)
            self.assertIs(type(error.given), type(value))
            self.assertEqual(told(raised(first_item, ZEROS, PLAIN, (), value)), expected)
            for at in (0, -1, None):
                self.assertEqual(told(raised(numbered, ZEROS, PLAIN, (), value, at)), expected)
        for most in (0, 1, 39, 40):
            self.assertEqual(counted_papers(ZEROS, PLAIN, (), most=most), ([0] + [1] * 40)[:most + 1])
            self.assertEqual(len(listed(ZEROS, PLAIN, (), most)), most > 0)
        self.assertEqual(len(counted_papers(ZEROS, PLAIN, ())), 21)

    def test_at(self):
        store = made(4, [], [])
        for value in (*ODD_VALUES, -1, 9, 10, 10 ** 14, True, False, "0", (0,), [0]):
            error = raised(numbered, THINGS, store, (), 5, value)
            self.assertEqual(told(error), ("InvalidNumber", {"given": value}))
            self.assertIs(type(error.given), type(value))
        self.assertEqual(numbered(THINGS, store, (), 5, 8), [0, 3, 0, 3, 1])
        self.assertEqual(numbered(THINGS, store, (), 5, 0), [0, 1, 0, 1, 1])
        self.assertEqual(told(raised(numbered, THINGS, store, (), 4, 0)), ("InvalidNumber", {"given": 0}))

    def test_marks(self):
        store = made(4, [], [])
        self.assertEqual(place_of(THINGS, store, (), (0, 2, 1)), 1)
        for value in (*ODD_VALUES, 0, "021", [0, 2, 1, 0], [0, 2], [0, 0, 1], [0, 4, 1], [0, 2, -1], [0, 2, True], [False, 2, 1],
                      ["0", 2, 1], [0, None, 1], [0, [2], 1], [0, (2,), 1], [0, 10 ** 14, 1], [[0, 2, 1]]):
            self.assertEqual(told(raised(place_of, THINGS, store, (), value)), ("NoPaper", {}), repr(value))
        self.assertEqual(place_of(ZEROS, PLAIN, (), [0] * 39 + [1]), 0)
        self.assertEqual(told(raised(place_of, ZEROS, PLAIN, (), [0] * 40)), ("NoPaper", {}))

    def test_a_generator_raises_at_its_first_item(self):
        for reader, inputs, length, code in ((self.TWO, (0, 9), 1, "InvalidInputs"), (self.MANY, (0,), 1, "TooMany"),
                                             (ZEROS, (), 41, "InvalidNumber"), (ZEROS, (0,), -1, "InvalidInputs")):
            papers = papers_of(reader, PLAIN, inputs, length)
            self.assertEqual(told(raised(next, papers))[0], code)
        papers = papers_of(self.TWO, Store(1, {}), None, None)
        self.assertEqual(told(raised(next, papers)), ("Unfit", {"name": "red"}))

    def test_the_order_for_parted(self):
        one, other = Reader([0], [("has", "a", 0, 1), ("end",)], inputs=1), Reader([0, 0], [("has", "b", 0, 1), ("end",)], inputs=2)
        for tables, inputs, error in (({}, None, ("Unfit", {"name": "a"})), ({"b": (1, [])}, (0, 0), ("Unfit", {"name": "a"})),
                                      ({"a": (1, [])}, (0, 0), ("InvalidInputs", {"given": (0, 0)})),
                                      ({"a": (1, [])}, (0,), ("Unfit", {"name": "b"})),
                                      ({"a": (1, []), "b": (1, [])}, (0,), ("InvalidInputs", {"given": (0,)}))):
            self.assertEqual(told(raised(parted, one, other, Store(1, tables), inputs)), error)
        for pair in ((self.MANY, one), (one, self.MANY)):
            store = Store(1, {"a": (1, []), "red": (1, [])})
            self.assertEqual(told(raised(parted, *pair, store, (0,))), ("TooMany", {"most": 2000}))
            self.assertEqual(told(raised(parted, *pair, store, (1,))), ("InvalidInputs", {"given": (1,)}))
        # The one has too many stops, but the other one comes first with what is wrong with the store.
        self.assertEqual(told(raised(parted, self.MANY, one, Store(1, {"red": (1, [])}), (0,))), ("Unfit", {"name": "a"}))

    def test_nothing_is_changed(self):
        inputs, stops, marks = [0, 1], [(0, [1])], [1]
        is_closed(self.TWO, PLAIN, inputs, stops)
        raised(place_of, self.TWO, PLAIN, inputs, marks)
        self.assertEqual((inputs, stops, marks), ([0, 1], [(0, [1])], [1]))


if __name__ == "__main__":
    unittest.main()
