"""Each name of the interface stands in its file, with the arguments that the document lists."""

import importlib
import inspect
import unittest

FUNCTIONS = {
    "longlife.rules": {"read_rule": ["string"], "write_rule": ["rule"]},
    "longlife.patterns": {
        "pattern": ["cells"],
        "moved": ["cells", "rows", "columns"],
        "turned": ["cells"],
        "mirrored": ["cells"],
        "home": ["cells"],
        "grown": ["cells", "rule", "generations"],
        "read_picture": ["strings"],
        "picture": ["cells"],
        "read_text": ["string"],
        "write_text": ["cells"],
    },
    "longlife.fates": {
        "fate": ["cells", "rule", "bound"],
        "holds": ["cells", "rule", "told"],
        "at_generation": ["cells", "rule", "told", "generation"],
    },
    "longlife.pasts": {
        "is_past": ["target", "rule", "past"],
        "fails": ["target", "rule", "case", "row", "column"],
        "denies": ["target", "rule", "denial"],
        "search": ["target", "rule"],
    },
    "longlife.islands": {
        "images": ["cells"],
        "least_form": ["cells"],
        "symmetries": ["cells"],
        "islands": ["cells"],
        "census": ["cells"],
    },
    "longlife.stills": {
        "is_still": ["picture", "rule"],
        "place_fails": ["wishes", "rule", "case", "row", "column"],
        "denies_still": ["wishes", "rule", "denial"],
        "search_still": ["wishes", "rule"],
    },
    "longlife.rings": {
        "ring_next": ["cells", "rule", "height", "width"],
        "ring_grown": ["cells", "rule", "height", "width", "generations"],
        "ring_fate": ["cells", "rule", "height", "width", "bound"],
        "unrolled": ["cells", "height", "width", "rows", "columns"],
    },
}
CLASSES = {
    "longlife.errors": {
        "LifeError": {},
        "InvalidRule": {},
        "InvalidText": {},
        "InvalidPicture": {"__init__": ["self", "row", "column"]},
    },
    "longlife.rules": {
        "Rule": {"__init__": ["self", "births", "survival"], "lives": ["self", "alive", "count"],
                 "__eq__": ["self", "other"]},
    },
    "longlife.squares": {
        "Store": {
            "__init__": ["self", "rule"],
            "joined": ["self", "a", "b", "c", "d"],
            "level": ["self", "square"],
            "parts": ["self", "square"],
            "count": ["self", "square"],
            "empty": ["self", "level"],
            "built": ["self", "cells", "level"],
            "cells": ["self", "square"],
            "middle": ["self", "square"],
            "future": ["self", "square", "j"],
            "collected": ["self", "squares"],
        },
    },
    "longlife.worlds": {
        "World": {
            "__init__": ["self", "rule"],
            "put": ["self", "row", "column", "alive"],
            "paste": ["self", "cells", "row", "column", "mode"],
            "leap": ["self", "generations"],
            "tidy": ["self"],
            "alive": ["self", "row", "column"],
            "count": ["self"],
            "cells": ["self"],
            "bounds": ["self"],
            "window": ["self", "row", "column", "height", "width"],
        },
    },
}


class InterfaceTest(unittest.TestCase):
    def check_arguments(self, function, names):
        parameters = inspect.signature(function).parameters.values()
        self.assertEqual([parameter.name for parameter in parameters], names)
        for parameter in parameters:
            self.assertEqual(parameter.kind, parameter.POSITIONAL_OR_KEYWORD)
            self.assertIs(parameter.default, parameter.empty)

    def test_functions(self):
        for module_name, functions in FUNCTIONS.items():
            module = importlib.import_module(module_name)
            for name, names in functions.items():
                function = getattr(module, name)
                self.assertTrue(inspect.isfunction(function))
                self.assertEqual(function.__module__, module_name)
                self.check_arguments(function, names)

    def test_classes_and_their_own_methods(self):
        for module_name, classes in CLASSES.items():
            module = importlib.import_module(module_name)
            for name, methods in classes.items():
                found = getattr(module, name)
                self.assertTrue(inspect.isclass(found))
                self.assertEqual(found.__module__, module_name)
                for method, names in methods.items():
                    self.assertIn(method, vars(found))
                    self.check_arguments(vars(found)[method], names)


if __name__ == "__main__":
    unittest.main()
