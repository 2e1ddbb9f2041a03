"""The interface of the document: names, parameters, and where each thing is defined."""

import importlib
import inspect
import unittest

FUNCTIONS = {
    "words": {"is_name": ["value"], "is_number": ["value", "least", "most"]},
}

# For each class its methods with their parameters; None stands for any number of arguments.
CLASSES = {
    ("stores", "Store"): {
        "__init__": ["size", "tables"], "tables": [], "places": ["name"], "rows_of": ["name"], "holds": None, "put": None,
        "drop": None, "within": ["other"], "__xor__": ["other"], "__eq__": ["other"], "__len__": [], "__repr__": [],
        "page": [],
    },
    ("questions", "Question"): {
        "__init__": ["names", "saying"], "tables": [], "denied": [], "__and__": ["other"], "__or__": ["other"],
        "grows": [], "text": [], "__eq__": ["other"], "__repr__": [],
    },
}


def module(name):
    return importlib.import_module(f"oncethrough.{name}")


class Interface(unittest.TestCase):
    def test_functions(self):
        for name, functions in FUNCTIONS.items():
            for function, parameters in functions.items():
                made = getattr(module(name), function)
                self.assertEqual(made.__module__, f"oncethrough.{name}")
                self.assertEqual(list(inspect.signature(made).parameters), parameters)

    def test_classes(self):
        for (name, made), methods in CLASSES.items():
            found = getattr(module(name), made)
            self.assertEqual(found.__module__, f"oncethrough.{name}")
            for method, parameters in methods.items():
                self.assertIn(method, vars(found))
                if parameters is not None:
                    self.assertEqual(list(inspect.signature(vars(found)[method]).parameters)[1:], parameters)

    def test_static_methods(self):
        for name, made in CLASSES:
            read = vars(getattr(module(name), made))["read"]
            self.assertIsInstance(read, staticmethod)
            self.assertEqual(list(inspect.signature(read.__func__).parameters), ["text"])

    def test_class_values(self):
        self.assertEqual(vars(module("stores").Store)["MOST"], 8)


if __name__ == "__main__":
    unittest.main()
