"""[1], [2] and the preamble of the interface: that all names stand where the document tells them."""

import ast
import pathlib
import unittest

from everyorder.always import failing
from everyorder.bench import Bench
from everyorder.programs import Level, Program
from everyorder.ringtables import table_of
from everyorder.runs import nothing_runs
from everyorder.tells import Double
from everyorder.words import Word

PACKAGE = pathlib.Path(__file__).resolve().parent.parent / "everyorder"

ONE_ARGUMENT = {
    "BadWord": "index", "BadText": "line", "BadSize": "size", "BadCall": "call", "BadNumber": "number",
    "BadPlace": "place", "BadThing": "thing", "BadRow": "index", "NotWhole": "size", "NotClosed": "size",
    "NoLevel": "size", "NoList": "size",
}

# For each module: the functions with their arguments, and the classes with those of their methods.
FUNCTIONS = {
    "errors": {},
    "maps": {
        "nothing": ["size"], "joined": ["first", "second"], "undone": ["row"], "done": ["row", "things"],
        "repeated": ["row", "many"], "rings": ["row"], "is_even": ["row"],
    },
    "words": {"place_value": ["word", "size"]},
    "programs": {},
    "tells": {
        "double": ["program", "n"], "twice": ["program", "n"], "does": ["program", "k"],
        "before": ["program", "k", "d"], "lasts": ["program", "k"],
    },
    "orders": {
        "order": ["program", "n", "i"], "number": ["program", "n", "row"], "numbers": ["program", "n", "row"],
        "steps": ["program", "n", "y"], "told_from": ["program", "n", "i"],
    },
    "times": {
        "count_at": ["program", "n", "place", "thing", "i"], "nth_at": ["program", "n", "place", "thing", "k"],
        "next_at": ["program", "n", "place", "thing", "i"], "count_left": ["program", "n", "one", "other", "i"],
    },
    "runs": {
        "runs_of": ["word", "k"], "runs_of_list": ["row"], "nothing_runs": ["k"], "exchange_runs": ["k", "x", "y"],
        "roll_runs": ["k", "x", "y", "c"], "wider_runs": ["runs"],
    },
    "rings": {
        "rings_of": ["f"], "ring_at": ["f", "j"], "in_one_ring": ["f", "i", "j"], "is_odd": ["f"], "is_one_ring": ["f"],
    },
    "ringtables": {"table_of": ["w", "v"], "first_many": ["w", "v"]},
    "shapes": {"open_at": ["program"], "made_by": ["program", "k"], "is_whole": ["program", "k"]},
    "always": {
        "wrong_at": ["program"], "failing": ["program", "rest"], "parts_at": ["program", "h"],
        "closing": ["program", "n"], "is_round": ["program", "n"],
    },
    "sizes": {},
    "alike": {"parting": ["one", "other", "n"], "alike": ["one", "other"]},
    "mends": {
        "nearest": ["program", "k"], "is_right": ["program", "k", "entries"], "right_lists": ["k"],
        "mended": ["program", "n"],
    },
    "counts": {
        "calls_of": ["n", "k"], "steps_done": ["program", "n"], "exchanges": ["program", "n", "x", "y"],
        "changes": ["program", "n"], "most_changed": ["program", "n"],
    },
    "bench": {},
}
CLASSES = {
    "errors": {
        "EveryError": {}, "Mixed": {}, "NothingToUndo": {},
        **{name: {"__init__": ["self", argument]} for name, argument in ONE_ARGUMENT.items()},
    },
    "maps": {},
    "words": {"Word": {"__init__": ["self", "text"], "__eq__": ["self", "other"], "at": ["self", "k"]}},
    "programs": {
        "Level": {
            "__init__": ["self", "text", "size"], "__eq__": ["self", "other"], "many_steps": ["self", "k"],
            "partner": ["self", "k", "i"], "step": ["self", "k", "i"],
        },
        "Program": {
            "__init__": ["self", "text"], "__eq__": ["self", "other"], "level": ["self", "k"],
            "step": ["self", "k", "i"], "with_level": ["self", "k", "text"], "without_level": ["self", "k"],
            "with_rest": ["self", "r", "text"],
        },
    },
    "tells": {"Double": {"__init__": ["self", "size", "first", "again"], "__eq__": ["self", "other"]}},
    "runs": {
        "Runs": {
            "__mul__": ["self", "other"], "__invert__": ["self"], "__eq__": ["self", "other"], "at": ["self", "j"],
        },
    },
    "ringtables": {"RingTable": {"at": ["self", "k"], "lines": ["self", "r"]}},
    "sizes": {"Sizes": {"__eq__": ["self", "other"], "__contains__": ["self", "x"], "next_from": ["self", "low"]}},
    "shapes": {},
    "always": {},
    "alike": {},
    "mends": {},
    "counts": {},
    "bench": {
        "Bench": {
            "__init__": ["self", "program", "n"], "__len__": ["self"], "__eq__": ["self", "other"],
            "on": ["self", "many"], "back": ["self", "many"], "to": ["self", "at"], "take": ["self", "program"],
            "undo": ["self"], "next_rows": ["self", "many"], "until": ["self", "row"], "page": ["self"],
            "read": ["cls", "page"],
        },
    },
}
# What each object has from the beginning: a call that makes one, and the names.
ATTRIBUTES = (
    (lambda: Word("turn"), "text moves has_turn"),
    (lambda: Level("same turn"), "text kind to_end word factor place entries"),
    (lambda: Program("period 1\nrest 0 same turn"), "text period rests sizes"),
    (lambda: Double(4, 1, 3), "size first again"),
    (lambda: nothing_runs(3), "size rows way"),
    (lambda: table_of(Word("roll 0 -1 1")), "modulus start"),
    (lambda: failing(Program("period 1\nrest 0 same turn"), 0), "start period rests early least"),
    (lambda: Bench(Program("period 1\nrest 0 same turn"), 3), "program size row number"),
)
# The arguments that may be left out, for each with what then holds.
DEFAULTS = {("ringtables", "table_of"): "None", ("ringtables", "first_many"): "None"}


def tree_of(module):
    return ast.parse((PACKAGE / f"{module}.py").read_text(encoding="utf-8"))


def arguments_of(node):
    return [argument.arg for argument in node.args.args]


class InterfaceTest(unittest.TestCase):
    def test_functions_are_defined_in_their_files(self):
        for module, functions in FUNCTIONS.items():
            defined = {node.name: arguments_of(node) for node in tree_of(module).body
                       if isinstance(node, ast.FunctionDef)}
            for name, arguments in functions.items():
                with self.subTest(module=module, name=name):
                    self.assertEqual(defined.get(name), arguments)

    def test_classes_and_their_methods_are_defined_in_their_files(self):
        for module, classes in CLASSES.items():
            defined = {node.name: node for node in tree_of(module).body if isinstance(node, ast.ClassDef)}
            for name, methods in classes.items():
                with self.subTest(module=module, name=name):
                    self.assertIn(name, defined)
                    told = {node.name: arguments_of(node) for node in defined[name].body
                            if isinstance(node, ast.FunctionDef)}
                    for method, arguments in methods.items():
                        self.assertEqual(told.get(method), arguments)

    def test_attributes_are_set_when_an_object_is_created(self):
        for make, names in ATTRIBUTES:
            held = vars(make())
            for name in names.split():
                self.assertIn(name, held)

    def test_arguments_that_may_be_left_out(self):
        for (module, name), worth in DEFAULTS.items():
            found = [node for node in tree_of(module).body if isinstance(node, ast.FunctionDef) and node.name == name]
            self.assertEqual([ast.unparse(each) for each in found[0].args.defaults], [worth])
        level = [node for node in tree_of("programs").body if isinstance(node, ast.ClassDef) and node.name == "Level"]
        made = [node for node in level[0].body if isinstance(node, ast.FunctionDef) and node.name == "__init__"]
        self.assertEqual([ast.unparse(each) for each in made[0].args.defaults], ["None"])

    def test_deeds_go_by_one_order_if_nothing_is_told(self):
        told = [node for node in tree_of("bench").body if isinstance(node, ast.ClassDef)][0]
        defaults = {node.name: [ast.unparse(each) for each in node.args.defaults] for node in told.body
                    if isinstance(node, ast.FunctionDef) and node.args.defaults}
        self.assertEqual(defaults, {"on": ["1"], "back": ["1"]})
        kinds = {node.name: [ast.unparse(each) for each in node.decorator_list] for node in told.body
                 if isinstance(node, ast.FunctionDef) and node.decorator_list}
        self.assertEqual(kinds, {"page": ["property"], "read": ["classmethod"]})

    def test_told_from_is_a_generator(self):
        told = [node for node in tree_of("orders").body if isinstance(node, ast.FunctionDef)
                and node.name == "told_from"]
        self.assertTrue(any(isinstance(node, (ast.Yield, ast.YieldFrom)) for node in ast.walk(told[0])))


if __name__ == "__main__":
    unittest.main()
