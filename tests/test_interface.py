"""The interface: each name is defined in the file under which it is listed."""

import ast
import inspect
import pathlib
import unittest

PACKAGE = pathlib.Path(__file__).resolve().parent.parent / "fewgoings"

# file: {name: parameters of the function, or of the class when it is called}
FUNCTIONS = {
    "runs": {"run": ["machine", "text"], "configurations": ["program", "text"]},
}
CLASSES = {
    "programs": {"Program": (["text"], ["text", "symbols", "cells", "parts", "letters"])},
    "chains": {"Chain": (["one", "other"], ["one", "other", "symbols"])},
    "errors": {"PassError": (["value"], ["value"])},
}


def defined(file, kind):
    tree = ast.parse((PACKAGE / f"{file}.py").read_text(encoding="utf-8"))
    return {node.name: node for node in tree.body if isinstance(node, kind)}


def loaded(file, name):
    return getattr(__import__(f"fewgoings.{file}", fromlist=[name]), name)


def assigned_to_self(node):
    """The attributes that the __init__ in the body of this very class sets."""
    found = set()
    for method in node.body:
        if isinstance(method, ast.FunctionDef) and method.name == "__init__":
            for part in ast.walk(method):
                if isinstance(part, ast.Attribute) and isinstance(part.ctx, ast.Store) and part.value.id == "self":
                    found.add(part.attr)
    return found


class InterfaceTest(unittest.TestCase):
    def test_functions(self):
        for file, functions in FUNCTIONS.items():
            for name, parameters in functions.items():
                self.assertIn(name, defined(file, ast.FunctionDef))
                self.assertEqual(list(inspect.signature(loaded(file, name)).parameters), parameters)

    def test_classes(self):
        for file, classes in CLASSES.items():
            for name, (parameters, attributes) in classes.items():
                self.assertLessEqual(set(attributes), assigned_to_self(defined(file, ast.ClassDef)[name]))
                self.assertEqual(list(inspect.signature(loaded(file, name)).parameters), parameters)
