"""The interface of the document: names, parameters, and where each thing is defined."""

import importlib
import inspect
import unittest

FUNCTIONS = {
    "words": {"is_name": ["value"], "is_number": ["value", "least", "most"]},
    "meaning": {"truth": ["store", "question", "inputs"]},
    "papers": {"is_paper": ["store", "question", "inputs", "marks"], "looks_of": ["store", "question", "inputs", "marks"]},
}

# For each class its methods with their parameters; None stands for any number of arguments.
CLASSES = {
    ("stores", "Store"): {
        "__init__": ["size", "tables"], "tables": [], "places": ["name"], "rows_of": ["name"], "holds": None, "put": None,
        "drop": None, "within": ["other"], "__xor__": ["other"], "__eq__": ["other"], "__len__": [], "__repr__": [],
        "page": [],
    },
    ("questions", "Question"): {
        "__init__": ["names", "saying"], "tables": [], "denied": [], "__and__": ["other"], "__or__": ["other"],
        "grows": [], "text": [], "__eq__": ["other"], "__repr__": [],
    },
    ("weights", "Weigher"): {
        "__init__": ["store", "question"], "least": ["inputs", "yes"], "counted": ["inputs", "most", "yes"],
        "first": ["inputs", "yes"],
    },
    ("readers", "Reader"): {
        "__init__": ["cells", "rows", "inputs"], "tables": [], "__len__": [], "__eq__": ["other"], "__repr__": [], "page": [],
    },
}

# Parameters that are passed by name alone, with their defaults.
BY_NAME = {
    ("weights", "Weigher", "least"): {"yes": True},
    ("weights", "Weigher", "counted"): {"most": 20, "yes": True},
    ("weights", "Weigher", "first"): {"yes": True},
    ("readers", "Reader", "__init__"): {"inputs": 0},
}


def module(name):
    return importlib.import_module(f"oncethrough.{name}")


class Interface(unittest.TestCase):
    def test_functions(self):
        for name, functions in FUNCTIONS.items():
            for function, parameters in functions.items():
                made = getattr(module(name), function)
                self.assertEqual(made.__module__, f"oncethrough.{name}")
                self.assertEqual(list(inspect.signature(made).parameters), parameters)

    def test_classes(self):
        for (name, made), methods in CLASSES.items():
            found = getattr(module(name), made)
            self.assertEqual(found.__module__, f"oncethrough.{name}")
            for method, parameters in methods.items():
                self.assertIn(method, vars(found))
                if parameters is not None:
                    self.assertEqual(list(inspect.signature(vars(found)[method]).parameters)[1:], parameters)

    def test_static_methods(self):
        for name, made in (("stores", "Store"), ("questions", "Question"), ("readers", "Reader")):
            read = vars(getattr(module(name), made))["read"]
            self.assertIsInstance(read, staticmethod)
            self.assertEqual(list(inspect.signature(read.__func__).parameters), ["text"])

    def test_what_is_passed_by_name_alone(self):
        for (name, made), methods in CLASSES.items():
            for method in methods:
                parameters = inspect.signature(vars(getattr(module(name), made))[method]).parameters.values()
                found = {each.name: each.default for each in parameters if each.kind is inspect.Parameter.KEYWORD_ONLY}
                self.assertEqual(found, BY_NAME.get((name, made, method), {}))

    def test_class_values(self):
        self.assertEqual(vars(module("stores").Store)["MOST"], 8)
        self.assertEqual(vars(module("readers").Reader)["MOST"], 10000)


if __name__ == "__main__":
    unittest.main()
