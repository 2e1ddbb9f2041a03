"""[2] and the interface of errors.py: classes, codes, attributes, and what is under what."""

import unittest

from oncethrough import errors

ONCE_ERRORS = {
    "InvalidNumber": ("given",), "InvalidName": ("given",), "InvalidTable": ("name",),
    "InvalidRow": ("table", "at"), "InvalidThings": ("given",), "Unlike": (), "InvalidNames": ("given",),
    "InvalidSaying": ("given",), "InvalidInputs": ("given",), "Unfit": ("name",), "InvalidText": ("line",),
    "NoPaper": (), "HasPaper": (), "TooLong": ("most",), "TooMany": ("most",), "InvalidCell": ("at",),
    "InvalidStep": ("at",), "InvalidStop": ("given",), "Refused": (), "InvalidCommand": ("at",),
    "DuplicateName": ("name",), "Full": ("most",), "NotAccepted": ("name",),
}
MISSING = {"UnknownTable": ("name",), "UnknownName": ("name",)}
TUPLES = ("InvalidThings", "InvalidNames", "InvalidInputs")


def values_for(name, attributes):
    return [(7, at) if name in TUPLES else at for at in range(len(attributes))]


class Classes(unittest.TestCase):
    def check_class(self, name, attributes, base):
        made = getattr(errors, name)
        values = values_for(name, attributes)
        self.assertEqual(made.__bases__, (base,), name)
        self.assertEqual(made.__module__, "oncethrough.errors")
        for error in (made(*values), made(**dict(zip(attributes, values)))):
            self.assertEqual(vars(error), {"code": name, **dict(zip(attributes, values))})

    def test_errors_of_wrong_values(self):
        for name, attributes in ONCE_ERRORS.items():
            with self.subTest(name):
                self.check_class(name, attributes, errors.OnceError)
                self.assertFalse(issubclass(getattr(errors, name), LookupError))

    def test_errors_of_what_is_missing(self):
        for name, attributes in MISSING.items():
            with self.subTest(name):
                self.check_class(name, attributes, errors.Missing)
                self.assertFalse(issubclass(getattr(errors, name), ValueError))
                self.assertFalse(issubclass(getattr(errors, name), (KeyError, IndexError)))

    def test_nothing_left(self):
        self.check_class("NothingLeft", (), IndexError)
        self.assertFalse(issubclass(errors.NothingLeft, (errors.Missing, ValueError)))

    def test_the_classes_above(self):
        self.assertEqual(errors.OnceError.__bases__, (ValueError,))
        self.assertEqual(errors.Missing.__bases__, (LookupError,))
        self.assertEqual(vars(errors.OnceError("word")), {"code": "word"})
        self.assertEqual(vars(errors.Missing(code="word")), {"code": "word"})

    def test_there_are_no_others(self):
        found = [name for name, value in vars(errors).items()
                 if isinstance(value, type) and value.__module__ == "oncethrough.errors"]
        listed = [*ONCE_ERRORS, *MISSING, "OnceError", "Missing", "NothingLeft"]
        self.assertEqual(sorted(found), sorted(listed))

    def test_they_can_be_raised(self):
        with self.assertRaises(ValueError):
            raise errors.InvalidRow("red", 3)
        with self.assertRaises(LookupError):
            raise errors.UnknownTable("red")
        with self.assertRaises(IndexError):
            raise errors.NothingLeft()


class Given(unittest.TestCase):
    def test_three_of_them_give_tuples(self):
        for name in TUPLES:
            made = getattr(errors, name)
            for given, kept in (((1, 2), (1, 2)), ([1, 2], (1, 2)), ((), ()), ([], ()), (5, (5,)), ("ab", ("ab",)),
                                (None, (None,)), (True, (True,))):
                found = made(given).given
                self.assertEqual(found, kept)
                self.assertIs(type(found), tuple)

    def test_lists_are_copied(self):
        for name in ("InvalidNumber", "InvalidName", "InvalidSaying", "InvalidStop"):
            given = [1, [2], ([3],)]
            error = getattr(errors, name)(given)
            given[1].append(9)
            given[2][0].append(9)
            given.append(9)
            self.assertEqual(error.given, [1, [2], ([3],)])
        given = ([1],)
        error = errors.InvalidThings(given)
        given[0].append(9)
        self.assertEqual(error.given, ([1],))
        for made in (errors.UnknownTable, errors.UnknownName):
            name = ["red"]
            error = made(name)
            name.append("blue")
            self.assertEqual(error.name, ["red"])

    def test_values_keep_their_kind(self):
        for value in (True, 1, "1", None, (1, (True,)), [1, "a"]):
            self.assertEqual(repr(errors.InvalidNumber(value).given), repr(value))

    def test_what_is_nested_without_measure(self):
        value = ()
        for _ in range(5000):
            value = (value,)
        self.assertIs(type(errors.InvalidSaying(value).given), tuple)


if __name__ == "__main__":
    unittest.main()
