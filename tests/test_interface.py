"""[1], [2] and the preamble of the interface: that all names stand where the document tells them."""

import ast
import pathlib
import unittest

PACKAGE = pathlib.Path(__file__).resolve().parent.parent / "everyorder"

ONE_ARGUMENT = {
    "BadWord": "index", "BadText": "line", "BadSize": "size", "BadCall": "call", "BadNumber": "number",
    "BadPlace": "place", "BadThing": "thing", "BadRow": "index", "NotWhole": "size", "NotClosed": "size",
    "NoLevel": "size", "NoList": "size",
}

# For each module: the functions with their arguments, and the classes with those of their methods.
FUNCTIONS = {
    "errors": {},
    "maps": {
        "nothing": ["size"], "joined": ["first", "second"], "undone": ["row"], "done": ["row", "things"],
        "repeated": ["row", "many"], "rings": ["row"], "is_even": ["row"],
    },
    "words": {"place_value": ["word", "size"]},
}
CLASSES = {
    "errors": {
        "EveryError": {}, "Mixed": {}, "NothingToUndo": {},
        **{name: {"__init__": ["self", argument]} for name, argument in ONE_ARGUMENT.items()},
    },
    "maps": {},
    "words": {"Word": {"__init__": ["self", "text"], "__eq__": ["self", "other"], "at": ["self", "k"]}},
}


def tree_of(module):
    return ast.parse((PACKAGE / f"{module}.py").read_text(encoding="utf-8"))


def arguments_of(node):
    return [argument.arg for argument in node.args.args]


class InterfaceTest(unittest.TestCase):
    def test_functions_are_defined_in_their_files(self):
        for module, functions in FUNCTIONS.items():
            defined = {node.name: arguments_of(node) for node in tree_of(module).body
                       if isinstance(node, ast.FunctionDef)}
            for name, arguments in functions.items():
                with self.subTest(module=module, name=name):
                    self.assertEqual(defined.get(name), arguments)

    def test_classes_and_their_methods_are_defined_in_their_files(self):
        for module, classes in CLASSES.items():
            defined = {node.name: node for node in tree_of(module).body if isinstance(node, ast.ClassDef)}
            for name, methods in classes.items():
                with self.subTest(module=module, name=name):
                    self.assertIn(name, defined)
                    told = {node.name: arguments_of(node) for node in defined[name].body
                            if isinstance(node, ast.FunctionDef)}
                    for method, arguments in methods.items():
                        self.assertEqual(told.get(method), arguments)


if __name__ == "__main__":
    unittest.main()
