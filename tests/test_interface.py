"""The names and parameters of the interface, each in the file that lists it."""

import inspect
import unittest

from shortestbytes import counts, errors, values

FUNCTIONS = [
    (counts, "number_code", ["number"]),
    (counts, "number_at", ["data", "at"]),
    (values, "is_value", ["value"]),
]

CLASSES = [
    (values, "Tag", ["number", "content"], ["content", "__eq__", "__lt__", "__repr__"]),
]


class Interface(unittest.TestCase):
    def test_functions(self):
        for module, name, parameters in FUNCTIONS:
            with self.subTest(name=name):
                thing = getattr(module, name)
                self.assertTrue(inspect.isfunction(thing))
                self.assertEqual(thing.__module__, module.__name__)
                self.assertEqual(list(inspect.signature(thing).parameters), parameters)

    def test_classes(self):
        for module, name, parameters, methods in CLASSES:
            with self.subTest(name=name):
                thing = getattr(module, name)
                self.assertEqual(thing.__module__, module.__name__)
                self.assertEqual(list(inspect.signature(thing).parameters), parameters)
                for method in methods:
                    self.assertIn(method, vars(thing))

    def test_errors(self):
        for name, thing in inspect.getmembers(errors, inspect.isclass):
            with self.subTest(name=name):
                self.assertEqual(thing.__module__, errors.__name__)


if __name__ == "__main__":
    unittest.main()
