"""[3] and the interface of stores.py, without the pages."""

import unittest

from helper import ODD_VALUES, raised, told
from oncethrough import errors
from oncethrough.stores import Store


def sample():
    return Store(3, {"road": (2, [(2, 0), (0, 1), (0, 0)]), "red": (1, [(1,)]), "blue": (1, [])})


class Making(unittest.TestCase):
    def test_what_it_tells(self):
        store = sample()
        self.assertEqual(store.size, 3)
        self.assertEqual(store.tables(), ["blue", "red", "road"])
        self.assertEqual([store.places(name) for name in store.tables()], [1, 1, 2])
        self.assertEqual(store.rows_of("road"), [(0, 0), (0, 1), (2, 0)])
        self.assertEqual(store.rows_of("red"), [(1,)])
        self.assertEqual(store.rows_of("blue"), [])
        self.assertEqual(len(store), 4)
        self.assertEqual(repr(store), "Store(3 things, 3 tables, 4 rows)")
        self.assertEqual(Store.MOST, 8)
        self.assertEqual(store.MOST, 8)

    def test_by_name(self):
        store = Store(tables={"red": (1, [(0,)])}, size=1)
        self.assertEqual(store.rows_of(name="red"), [(0,)])
        self.assertEqual(store.places(name="red"), 1)
        self.assertIs(store.within(other=store), True)

    def test_one_of_each(self):
        store = Store(1, {"red": (1, [(0,)])})
        self.assertEqual(repr(store), "Store(1 things, 1 tables, 1 rows)")
        self.assertEqual(repr(Store(8, {})), "Store(8 things, 0 tables, 0 rows)")
        self.assertEqual(len(Store(8, {})), 0)
        self.assertEqual(Store(8, {}).tables(), [])

    def test_sizes(self):
        for size in range(1, 9):
            self.assertEqual(Store(size, {"red": (1, [(size - 1,)])}).size, size)
        for size in (0, 9, -1, 10 ** 14, True, False, None, "3", "", (), (3,), [3], [[3]]):
            error = raised(Store, size, {})
            self.assertEqual(told(error), ("InvalidNumber", {"given": size}))
            self.assertIs(type(error.given), type(size))

    def test_numbers_of_tables(self):
        four = {name: (1, []) for name in "abcd"}
        self.assertEqual(Store(2, four).tables(), ["a", "b", "c", "d"])
        self.assertEqual(told(raised(Store, 2, {**four, "e": (1, [])})), ("TooMany", {"most": 4}))
        self.assertEqual(told(raised(Store, 2, {**four, "E": 5})), ("TooMany", {"most": 4}))

    def test_wrong_names_of_tables(self):
        for name in ("", "Red", "abcdefg", "a b", "r2", 0, 1, True, None, (), ("red",), (("a",), 1)):
            error = raised(Store, 2, {"blue": (1, [(0,)]), name: (1, [])})
            self.assertEqual(told(error), ("InvalidTable", {"name": name}))

    def test_wrong_tables(self):
        wrong = [*ODD_VALUES, (1,), (1, [], []), ([], 1), (0, []), (3, []), (True, []), ("1", []), (None, []), ((1,), []),
                 (1, None), (1, 0), (1, ""), (1, "a"), (2, True), "ab", 2, [1, []], [2, [(0, 1)]]]
        for table in wrong:
            error = raised(Store, 2, {"blue": (1, [(0,)]), "red": table})
            self.assertEqual(told(error), ("InvalidTable", {"name": "red"}), repr(table))

    def test_wrong_rows(self):
        for row in (*ODD_VALUES, (3,), (-1,), (True,), (False,), ("0",), (None,), (0, 1), [0], ((0,),), 0, "a"):
            for at in range(4):
                rows = [(0,), (2,), (1,)]
                rows.insert(at, row)
                self.assertEqual(told(raised(Store, 3, {"red": (1, rows)})), ("InvalidRow", {"table": "red", "at": at}))
        for row in ((0,), (0, 3), (3, 0), (0, -1), (0, True), (1, "0"), (0, 1, 2), [0, 1], (), 5):
            for at in range(4):
                rows = [(0, 1), (2, 0), (1, 1)]
                rows.insert(at, row)
                self.assertEqual(told(raised(Store, 3, {"far": (2, rows)})), ("InvalidRow", {"table": "far", "at": at}))

    def test_repeated_rows(self):
        rows = [(0, 1), (1, 0), (2, 2)]
        for first in range(3):
            for at in range(first + 1, 4):
                doubled = rows[:at] + [rows[first]] + rows[at:]
                self.assertEqual(told(raised(Store, 3, {"far": (2, doubled)})), ("InvalidRow", {"table": "far", "at": at}))
        self.assertEqual(told(raised(Store, 3, {"red": (1, [(0,)] * 9)})), ("InvalidRow", {"table": "red", "at": 1}))

    def test_the_first_wrong_row_counts(self):
        error = raised(Store, 2, {"red": (1, [(0,), (0,), (5,), None])})
        self.assertEqual(told(error), ("InvalidRow", {"table": "red", "at": 1}))

    def test_the_order_of_errors(self):
        five = {name: None for name in "ABCDE"}
        self.assertEqual(told(raised(Store, 0, five))[0], "InvalidNumber")
        self.assertEqual(told(raised(Store, 1, five))[0], "TooMany")
        for tables in ({"a": (1, [(9,)]), "b": (3, [])}, {"b": (3, []), "a": (1, [(9,)])}):
            self.assertEqual(told(raised(Store, 1, tables)), ("InvalidTable", {"name": "b"}))
        self.assertEqual(told(raised(Store, 1, {"c": (1, [(9,)]), "B": (1, [])})), ("InvalidTable", {"name": "B"}))

    def test_rows_may_be_a_tuple(self):
        self.assertEqual(Store(3, {"red": (1, ((2,), (0,)))}), Store(3, {"red": (1, [(0,), (2,)])}))

    def test_copies(self):
        rows = [(0,)]
        tables = {"red": (1, rows)}
        store = Store(2, tables)
        rows.append((1,))
        tables["blue"] = (1, [])
        self.assertEqual(store, Store(2, {"red": (1, [(0,)])}))
        store.tables().append("blue")
        store.rows_of("red").append((1,))
        self.assertEqual(store.tables(), ["red"])
        self.assertEqual(store.rows_of("red"), [(0,)])
        self.assertEqual(tables, {"red": (1, [(0,), (1,)]), "blue": (1, [])})

    def test_a_wrong_call_changes_nothing(self):
        tables = {"red": (1, [(0,), (0,)])}
        raised(Store, 2, tables)
        self.assertEqual(tables, {"red": (1, [(0,), (0,)])})


class Rows(unittest.TestCase):
    def test_holds(self):
        store = sample()
        self.assertIs(store.holds("road", 0, 1), True)
        self.assertIs(store.holds("road", 1, 0), False)
        self.assertIs(store.holds("red", 1), True)
        self.assertIs(store.holds("red", 0), False)
        self.assertIs(store.holds("blue", 1), False)

    def test_put(self):
        store = sample()
        other = store.put("road", 1, 1)
        self.assertEqual(other.rows_of("road"), [(0, 0), (0, 1), (1, 1), (2, 0)])
        self.assertEqual(other.rows_of("red"), [(1,)])
        self.assertEqual(store, sample())
        self.assertNotEqual(other, store)
        self.assertEqual(store.put("road", 0, 1), store)
        self.assertEqual(store.put("blue", 2).rows_of("blue"), [(2,)])

    def test_drop(self):
        store = sample()
        other = store.drop("road", 0, 1)
        self.assertEqual(other.rows_of("road"), [(0, 0), (2, 0)])
        self.assertEqual(other.rows_of("red"), [(1,)])
        self.assertEqual(store, sample())
        self.assertNotEqual(other, store)
        self.assertEqual(store.drop("road", 1, 1), store)
        self.assertEqual(store.drop("red", 1).tables(), ["blue", "red", "road"])

    def test_unknown_tables(self):
        store = sample()
        for name in (*ODD_VALUES, "re", "reds", "Red", 3, ["red"], ("red",)):
            for call in (store.places, store.rows_of):
                self.assertEqual(told(raised(call, name)), ("UnknownTable", {"name": name}))
            for call in (store.holds, store.put, store.drop):
                self.assertEqual(told(raised(call, name, 0)), ("UnknownTable", {"name": name}))
                self.assertEqual(told(raised(call, name, "?", None)), ("UnknownTable", {"name": name}))

    def test_wrong_things(self):
        store = sample()
        for call in (store.holds, store.put, store.drop):
            for things in ((), (0, 1), (3,), (-1,), (True,), (False,), ("0",), (None,), ((0,),), ([0],), (0, 1, 2)):
                error = raised(call, "red", *things)
                self.assertEqual(told(error), ("InvalidThings", {"given": things}))
                self.assertIs(type(error.given), tuple)
            for things in ((), (0,), (0, 3), (3, 0), (0, True), ("0", 1), (0, None), (0, 1, 2), ((0, 1),), ([0, 1],)):
                self.assertEqual(told(raised(call, "road", *things)), ("InvalidThings", {"given": things}))
        self.assertEqual(store, sample())


class Comparing(unittest.TestCase):
    def test_equal(self):
        same = Store(3, {"blue": (1, ()), "red": (1, [(1,)]), "road": (2, [(0, 0), (0, 1), (2, 0)])})
        self.assertTrue(sample() == same)
        self.assertFalse(sample() != same)

    def others(self):
        return (sample().put("road", 1, 1), sample().drop("red", 1),
                Store(4, {"road": (2, [(2, 0), (0, 1), (0, 0)]), "red": (1, [(1,)]), "blue": (1, [])}),
                Store(3, {"road": (2, [(2, 0), (0, 1), (0, 0)]), "red": (1, [(1,)]), "blue": (2, [])}),
                Store(3, {"road": (2, [(2, 0), (0, 1), (0, 0)]), "red": (1, [(1,)]), "green": (1, [])}),
                Store(3, {"road": (2, [(2, 0), (0, 1), (0, 0)]), "red": (1, [(1,)])}),
                Store(3, {"road": (2, [(2, 0), (0, 1), (0, 0)]), "blue": (1, [(1,)]), "red": (1, [])}))

    def test_different(self):
        for other in self.others():
            self.assertFalse(sample() == other)
            self.assertTrue(sample() != other)

    def test_other_values(self):
        store = sample()
        for value in (*ODD_VALUES, 3, "Store", store.page(), repr(store), {}, [store], (store,), object()):
            self.assertFalse(store == value)
            self.assertFalse(value == store)
            self.assertTrue(store != value)

    def test_within(self):
        store = sample()
        more, less, *unlike = self.others()
        self.assertIs(store.within(sample()), True)
        self.assertIs(store.within(more), True)
        self.assertIs(more.within(store), False)
        self.assertIs(less.within(store), True)
        self.assertIs(store.within(less), False)
        for other in unlike:
            self.assertIs(store.within(other), False)
            self.assertIs(other.within(store), False)
        self.assertIs(Store(2, {}).within(Store(2, {})), True)
        self.assertIs(Store(2, {}).within(Store(3, {})), False)
        # As many rows, but not the same ones.
        self.assertIs(store.within(store.drop("red", 1).put("blue", 1)), False)
        self.assertIs(store.drop("red", 1).within(store.drop("road", 0, 1)), False)

    def test_exclusive_or(self):
        store = sample()
        other = store.put("road", 1, 1).drop("road", 0, 1).put("blue", 2)
        odd = Store(3, {"road": (2, [(0, 1), (1, 1)]), "red": (1, []), "blue": (1, [(2,)])})
        self.assertEqual(store ^ other, odd)
        self.assertEqual(other ^ store, odd)
        self.assertEqual(store ^ odd, other)
        self.assertEqual(len(store ^ store), 0)
        self.assertEqual((store ^ store).tables(), store.tables())
        self.assertEqual(store ^ (store ^ store), store)
        self.assertEqual(store, sample())

    def test_exclusive_or_of_unlike_stores(self):
        for other in self.others()[2:6]:
            for one, two in ((sample(), other), (other, sample())):
                self.assertEqual(told(raised(lambda: one ^ two)), ("Unlike", {}))
        self.assertEqual(told(raised(lambda: Store(2, {}) ^ Store(1, {}))), ("Unlike", {}))


if __name__ == "__main__":
    unittest.main()
