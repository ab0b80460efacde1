"""Each name of the interface stands in its file, with the arguments that the document lists."""

import importlib
import inspect
import unittest

FUNCTIONS = {
    "longlife.rules": {"read_rule": ["string"], "write_rule": ["rule"]},
    "longlife.patterns": {
        "pattern": ["cells"],
        "moved": ["cells", "rows", "columns"],
        "turned": ["cells"],
        "mirrored": ["cells"],
        "home": ["cells"],
        "grown": ["cells", "rule", "generations"],
        "read_picture": ["strings"],
        "picture": ["cells"],
        "read_text": ["string"],
        "write_text": ["cells"],
    },
}
CLASSES = {
    "longlife.errors": {
        "LifeError": {},
        "InvalidRule": {},
        "InvalidText": {},
        "InvalidPicture": {"__init__": ["self", "row", "column"]},
    },
    "longlife.rules": {
        "Rule": {"__init__": ["self", "births", "survival"], "lives": ["self", "alive", "count"],
                 "__eq__": ["self", "other"]},
    },
}


class InterfaceTest(unittest.TestCase):
    def check_arguments(self, function, names):
        parameters = inspect.signature(function).parameters.values()
        self.assertEqual([parameter.name for parameter in parameters], names)
        for parameter in parameters:
            self.assertEqual(parameter.kind, parameter.POSITIONAL_OR_KEYWORD)
            self.assertIs(parameter.default, parameter.empty)

    def test_functions(self):
        for module_name, functions in FUNCTIONS.items():
            module = importlib.import_module(module_name)
            for name, names in functions.items():
                function = getattr(module, name)
                self.assertTrue(inspect.isfunction(function))
                self.assertEqual(function.__module__, module_name)
                self.check_arguments(function, names)

    def test_classes_and_their_own_methods(self):
        for module_name, classes in CLASSES.items():
            module = importlib.import_module(module_name)
            for name, methods in classes.items():
                found = getattr(module, name)
                self.assertTrue(inspect.isclass(found))
                self.assertEqual(found.__module__, module_name)
                for method, names in methods.items():
                    self.assertIn(method, vars(found))
                    self.check_arguments(vars(found)[method], names)


if __name__ == "__main__":
    unittest.main()
