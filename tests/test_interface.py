"""The interface of the document: names, parameters, and where each thing is defined."""

import importlib
import inspect
import unittest

FUNCTIONS = {
    "words": {"is_name": ["value"], "is_number": ["value", "least", "most"]},
    "meaning": {"truth": ["store", "question", "inputs"]},
    "papers": {"is_paper": ["store", "question", "inputs", "marks"], "looks_of": ["store", "question", "inputs", "marks"]},
    "readings": {"verdict": ["reader", "store", "inputs", "marks"]},
    "compiling": {"compiled": ["question"]},
    "leaning": {"needed": ["reader"], "lean": ["reader"]},
    "exploring": {
        "shortest": ["reader", "store", "inputs"], "closed_list": ["reader", "store", "inputs"],
        "is_closed": ["reader", "store", "inputs", "stops"], "counted_papers": ["reader", "store", "inputs", "most"],
        "papers_of": ["reader", "store", "inputs", "length"], "numbered": ["reader", "store", "inputs", "length", "at"],
        "place_of": ["reader", "store", "inputs", "marks"], "parted": ["one", "other", "store", "inputs"],
    },
    "opposites": {"opposite": ["reader"], "denial_length": ["reader", "store", "inputs"],
                  "denial": ["reader", "store", "inputs"]},
    "judging": {"judge": ["reader", "question", "size"], "loosened": ["reader", "at"]},
    "desk": {"claims_table": ["shelf"]},
}

# For each class its methods with their parameters; None stands for any number of arguments.
CLASSES = {
    ("stores", "Store"): {
        "__init__": ["size", "tables"], "tables": [], "places": ["name"], "rows_of": ["name"], "holds": None, "put": None,
        "drop": None, "within": ["other"], "__xor__": ["other"], "__eq__": ["other"], "__len__": [], "__repr__": [],
        "page": [],
    },
    ("questions", "Question"): {
        "__init__": ["names", "saying"], "tables": [], "denied": [], "__and__": ["other"], "__or__": ["other"],
        "grows": [], "text": [], "__eq__": ["other"], "__repr__": [],
    },
    ("weights", "Weigher"): {
        "__init__": ["store", "question"], "least": ["inputs", "yes"], "counted": ["inputs", "most", "yes"],
        "first": ["inputs", "yes"],
    },
    ("readers", "Reader"): {
        "__init__": ["cells", "rows", "inputs"], "tables": [], "__len__": [], "__eq__": ["other"], "__repr__": [], "page": [],
    },
    ("readings", "Reading"): {
        "__init__": ["reader", "store", "inputs"], "put": None, "__bool__": [], "stop": [], "twin": [],
    },
    ("readings", "Recorded"): {"__init__": ["reader", "store", "inputs"], "seen": [], "twin": []},
    ("judging", "Verdict"): {"__init__": ["word"]},
    ("judging", "Right"): {"__init__": ["pairs"]},
    ("judging", "Cheated"): {"__init__": ["store", "inputs", "marks"]},
    ("judging", "Silent"): {"__init__": ["store", "inputs"]},
    ("shelves", "Claim"): {"__init__": ["question", "inputs", "marks", "looks"]},
    ("shelves", "Shelf"): {
        "__init__": ["store"], "do": None, "undo": [], "redo": [], "claimed": [], "doubtful": [], "claim": ["name"],
        "stands": ["name"], "__contains__": ["name"], "__len__": [], "__eq__": ["other"], "twin": [], "page": [],
    },
    ("desk", "Desk"): {"__init__": ["shelf"], "answer": ["line"]},
}

# Parameters that are passed by name alone, with their defaults.
BY_NAME = {
    ("weights", "Weigher", "least"): {"yes": True},
    ("weights", "Weigher", "counted"): {"most": 20, "yes": True},
    ("weights", "Weigher", "first"): {"yes": True},
    ("readers", "Reader", "__init__"): {"inputs": 0},
}

STATIC = {
    ("stores", "Store", "read"): ["text"], ("questions", "Question", "read"): ["text"], ("readers", "Reader", "read"): ["text"],
    ("readings", "Reading", "taken"): ["reader", "store", "row", "cells"], ("shelves", "Shelf", "read"): ["text"],
}


def module(name):
    return importlib.import_module(f"oncethrough.{name}")


class Interface(unittest.TestCase):
    def test_functions(self):
        for name, functions in FUNCTIONS.items():
            for function, parameters in functions.items():
                made = getattr(module(name), function)
                self.assertEqual(made.__module__, f"oncethrough.{name}")
                self.assertEqual(list(inspect.signature(made).parameters), parameters)

    def test_classes(self):
        for (name, made), methods in CLASSES.items():
            found = getattr(module(name), made)
            self.assertEqual(found.__module__, f"oncethrough.{name}")
            for method, parameters in methods.items():
                self.assertIn(method, vars(found))
                if parameters is not None:
                    self.assertEqual(list(inspect.signature(vars(found)[method]).parameters)[1:], parameters)

    def test_static_methods(self):
        for (name, made, method), parameters in STATIC.items():
            found = vars(getattr(module(name), made))[method]
            self.assertIsInstance(found, staticmethod)
            self.assertEqual(list(inspect.signature(found.__func__).parameters), parameters)

    def test_what_is_passed_by_name_alone(self):
        for (name, made), methods in CLASSES.items():
            for method in methods:
                parameters = inspect.signature(vars(getattr(module(name), made))[method]).parameters.values()
                found = {each.name: each.default for each in parameters if each.kind is inspect.Parameter.KEYWORD_ONLY}
                self.assertEqual(found, BY_NAME.get((name, made, method), {}))

    def test_what_functions_take_by_name_alone(self):
        for name, functions in FUNCTIONS.items():
            for function in functions:
                parameters = inspect.signature(getattr(module(name), function)).parameters.values()
                found = {each.name: each.default for each in parameters if each.kind is inspect.Parameter.KEYWORD_ONLY}
                self.assertEqual(found, {"most": 20} if function == "counted_papers" else {})

    def test_class_values(self):
        self.assertEqual(vars(module("stores").Store)["MOST"], 8)
        self.assertEqual(vars(module("readers").Reader)["MOST"], 10000)


if __name__ == "__main__":
    unittest.main()
