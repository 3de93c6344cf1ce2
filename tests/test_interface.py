"""Names, files and parameters, as the document's interface tells them."""

import ast
import importlib
import inspect
import pathlib
import unittest

PACKAGE = pathlib.Path(__file__).resolve().parent.parent / "crewclocks"

FUNCTIONS = {
    "events": {
        "sequence": ["one", "other"],
        "shows_sequence": ["one", "other", "value"],
        "seen": ["event", "pace"],
        "shifted": ["event", "by"],
        "mirrored": ["event"],
        "own_square": ["one", "other"],
        "together": ["pace", "one", "other"],
    },
    "flights": {
        "when": ["flight", "event"],
        "seen_flight": ["flight", "pace"],
        "joined": ["one", "other"],
        "cut": ["flight", "time"],
        "slack": ["flight"],
    },
    "flashes": {
        "heard": ["flight", "event"],
        "colour": ["side", "sender", "hearer"],
        "told_first": ["flight", "event"],
        "thrown_plain": ["time", "factor", "many"],
        "thrown": ["time", "factor", "many", "modulus"],
    },
    "skies": {
        "seen_sky": ["sky", "pace"],
        "shifted_sky": ["sky", "by"],
        "mirrored_sky": ["sky"],
        "renamed": ["sky", "names"],
    },
    "runs": {
        "run": ["sky"],
        "why": ["sky", "name"],
    },
    "changes": {
        "edge": ["sky", "edit"],
        "edited": ["sky", "edit"],
        "kept": ["sky", "edit"],
        "run_again": ["sky", "edit", "told"],
        "unlike_rows": ["one", "other"],
    },
    "books": {
        "own_place": ["book", "name", "time"],
        "with_saying": ["book", "line"],
        "without_saying": ["book", "number"],
        "book_of": ["sky"],
    },
    "fitting": {
        "is_placing": ["book", "value"],
        "fits": ["book"],
        "shows_fits": ["book", "value"],
        "parts": ["book"],
        "paces": ["book"],
        "needless": ["book", "number"],
        "least_bars": ["book"],
    },
    "gaps": {
        "gap": ["book", "plane", "one", "other"],
        "shows_gap": ["book", "plane", "one", "other", "value"],
        "surely": ["book", "one", "other"],
        "shows_surely": ["book", "one", "other", "value"],
        "one_sky": ["book"],
        "shows_one_sky": ["book", "value"],
    },
    "alike": {
        "joint": ["sky"],
        "level": ["sky", "plane"],
        "same_logs": ["one", "other"],
        "shows_same_logs": ["one", "other", "value"],
    },
    "within": {
        "reach": ["one", "other", "most"],
        "shows_reach": ["one", "other", "most", "value"],
        "least_own": ["one", "other", "most"],
        "own_flight": ["one", "other", "most", "own"],
        "shows_own_flight": ["one", "other", "most", "own", "value"],
        "met_first": ["flight", "event", "most"],
        "lease_wait": ["most", "hold"],
        "leases": ["most", "hold", "wait"],
        "shows_leases": ["most", "hold", "wait", "value"],
    },
    "unknown": {
        "sums": ["plan"],
        "put_in": ["plan", "factors"],
        "same_end": ["one", "other"],
        "shows_same_end": ["one", "other", "value"],
    },
    "setting": {
        "echo": ["one", "other", "time"],
        "half": ["one", "other", "time"],
        "alike": ["one", "other"],
    },
    "journals": {
        "journal": ["bench"],
        "read_journal": ["text"],
    },
}
METHODS = {
    ("flights", "Flight"): {
        "__init__": ["self", "text"],
        "__len__": ["self"],
        "__eq__": ["self", "other"],
        "at": ["self", "time"],
        "pace_at": ["self", "time"],
    },
    ("books", "Book"): {
        "__init__": ["self", "text"],
        "__len__": ["self"],
        "__eq__": ["self", "other"],
    },
    ("skies", "Sky"): {
        "__init__": ["self", "text"],
        "__len__": ["self"],
        "__eq__": ["self", "other"],
    },
    ("unknown", "Open"): {
        "__init__": ["self", "text"],
        "__len__": ["self"],
        "__eq__": ["self", "other"],
    },
    ("bench", "Bench"): {
        "__init__": ["self", "text"],
        "__eq__": ["self", "other"],
        "alter": ["self", "edit"],
        "say": ["self", "line"],
        "unsay": ["self", "number"],
        "gather": ["self"],
        "strike": ["self", "number"],
        "log": ["self", "name"],
        "elder": ["self", "number"],
        "placed": ["self"],
        "asked": ["self", "one", "other"],
        "undo": ["self"],
        "redo": ["self"],
        "trial": ["self"],
        "keep": ["self"],
        "tried": ["self", "look", "keep"],
        "copy": ["self"],
    },
    ("desk", "Desk"): {
        "__init__": ["self", "text"],
        "say": ["self", "line"],
    },
}
ATTRIBUTES = {
    ("flights", "Flight", "flight 0 0 1"): "text start pace pieces whole goal",
    ("skies", "Sky", "sky\nship a 0 0 1"): "text names ships",
    ("books", "Book", "book\nship a"): "text names felt sayings",
    ("unknown", "Open", "open 0 0"): "text start whole",
    ("bench", "Bench", "sky\nship a 0 0 1"): "sky book done",
    ("desk", "Desk", "bench\nsky\nship a 0 0 1"): "bench",
}


def parameters(thing):
    return list(inspect.signature(thing).parameters)


def defined(module):
    """The names of what stands in the file of this module as def or class."""
    tree = ast.parse((PACKAGE / f"{module}.py").read_text())
    return [node.name for node in tree.body if isinstance(node, (ast.FunctionDef, ast.ClassDef))]


class Interface(unittest.TestCase):
    def test_functions_stand_in_their_files_with_their_parameters(self):
        for module, functions in FUNCTIONS.items():
            found = importlib.import_module(f"crewclocks.{module}")
            for name, expected in functions.items():
                self.assertIn(name, defined(module))
                self.assertEqual(parameters(getattr(found, name)), expected, name)

    def test_methods_stand_in_their_classes_with_their_parameters(self):
        for (module, name), methods in METHODS.items():
            found = getattr(importlib.import_module(f"crewclocks.{module}"), name)
            self.assertIn(name, defined(module))
            for method, expected in methods.items():
                self.assertIn(method, vars(found))
                self.assertEqual(parameters(vars(found)[method]), expected, method)

    def test_attributes_are_set_when_objects_are_made(self):
        for (module, name, text), attributes in ATTRIBUTES.items():
            made = getattr(importlib.import_module(f"crewclocks.{module}"), name)(text)
            self.assertLessEqual(set(attributes.split()), set(vars(made)))

    def test_keep_of_tried_is_passed_by_name_alone(self):
        keep = inspect.signature(importlib.import_module("crewclocks.bench").Bench.tried).parameters["keep"]
        self.assertIs(keep.kind, inspect.Parameter.KEYWORD_ONLY)
        self.assertIs(keep.default, False)


if __name__ == "__main__":
    unittest.main()
