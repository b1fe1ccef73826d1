"""The interface: which names stand in which file, and with which arguments."""

import importlib
import inspect
import unittest

FUNCTIONS = {
    "plans": {"is_name": ["thing"], "is_plan": ["thing"], "is_letter": ["thing"], "names_of": ["plan"]},
    "rules": {"counting": ["hours", "now", "span"], "named": ["rule", "size", "at"]},
    "judging": {"judged": ["plan", "events"], "house_of": ["plan", "events"]},
    "texts": {"told": ["events"], "read": ["text"]},
}
METHODS = {
    "__init__": ["self", "plan"],
    "send": ["self", "name", "letter"],
    "work": ["self", "name"],
    "fail": ["self", "name"],
    "is_open": ["self"],
    "hour": ["self"],
    "here": ["self"],
    "history": ["self"],
    "waits": ["self", "name"],
    "sum_of": ["self", "name"],
    "hours": ["self", "name"],
}


def arguments(function):
    return list(inspect.signature(function).parameters)


class Interface(unittest.TestCase):
    def test_functions(self):
        for file, functions in FUNCTIONS.items():
            module = importlib.import_module("wardhouse." + file)
            for name, wanted in functions.items():
                found = getattr(module, name)
                self.assertEqual(found.__module__, "wardhouse." + file)
                self.assertEqual(found.__name__, name)
                self.assertEqual(arguments(found), wanted)

    def test_the_class_house(self):
        module = importlib.import_module("wardhouse.houses")
        self.assertEqual(module.House.__module__, "wardhouse.houses")
        for name, wanted in METHODS.items():
            self.assertIn(name, vars(module.House))
            self.assertEqual(arguments(vars(module.House)[name]), wanted)


if __name__ == "__main__":
    unittest.main()
