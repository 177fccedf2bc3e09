"""The interface: each name is defined in the file under which it is listed."""

import ast
import inspect
import pathlib
import unittest

PACKAGE = pathlib.Path(__file__).resolve().parent.parent / "fewgoings"

# file: {name: parameters of the function, or of the class when it is called}; a star is in front of
# those that are passed by name alone.
FUNCTIONS = {
    "runs": {"run": ["machine", "text"], "configurations": ["program", "text"]},
    "passes": {"passes": ["machine", "text", "*turns"], "traces": ["machine", "text"], "output_of": ["traces"]},
    "classes": {
        "prefixes": ["machine"], "suffixes": ["machine"], "prefix_of": ["machine", "text"],
        "suffix_of": ["machine", "text"],
    },
    "needing": {
        "needs": ["machine", "*within", "*turns"], "shows_needs": ["machine", "value", "*within", "*turns"],
        "nearest": ["machine", "text", "most", "*turns"],
    },
    "writers": {
        "is_writer": ["program", "value"], "written": ["program", "writer", "text"], "writer": ["program", "number"],
        "shows_writer": ["program", "number", "value"], "partings": ["program", "writer"],
    },
    "sights": {"lookahead": ["program", "number"], "shows_lookahead": ["program", "number", "value"]},
    "sames": {"same": ["one", "other"], "shows_same": ["one", "other", "value"], "lean": ["program"]},
    "enders": {
        "ender": ["machine"], "count": ["machine", "outcome", "length"], "leading": ["program", "word"],
    },
    "fars": {
        "far_length": ["far"], "far_outcome": ["machine", "far"], "far_many": ["machine", "far"],
        "far_passes": ["machine", "far", "*turns"], "far_written": ["program", "far", "index"],
        "far_words": ["program", "far", "position"], "far_word": ["program", "writer", "far", "position"],
    },
    "journals": {
        "show_far": ["far"], "read_far": ["text"], "read_journal": ["lines"], "stored": ["page"], "recover": ["text"],
    },
}
CLASSES = {
    "programs": {"Program": (["text"], ["text", "symbols", "cells", "parts", "letters"])},
    "chains": {"Chain": (["one", "other"], ["one", "other", "symbols"])},
    "errors": {"PassError": (["value"], ["value"])},
    "readers": {"Reader": (["program", "number"], ["text", "is_closed", "told", "held"])},
    "pages": {"Page": (["program"], [
        "program", "length", "slices", "outcome", "many", "passes", "turns", "journal"])},
    "desk": {"Desk": (["lines"], ["page"])},
}
# The methods that are defined in the body of the class itself, with their parameters.
METHODS = {
    "readers": {"Reader": {"feed": ["symbol"], "close": [], "move": ["program", "number"]}},
    "pages": {"Page": {
        "put": ["position", "far"], "strike": ["first", "last"], "move": ["first", "last", "position"], "reprogram": ["text"],
        "undo": [], "redo": [], "symbol": ["position"], "identity": ["position"], "position": ["identity"],
        "written": ["index"], "words": ["identity"], "touched": ["identity"], "trial": [], "tried": ["look", "*keep"],
        "keep": [], "copy": [],
    }},
    "desk": {"Desk": {"say": ["line"]}},
}


def defined(file, kind):
    tree = ast.parse((PACKAGE / f"{file}.py").read_text(encoding="utf-8"))
    return {node.name: node for node in tree.body if isinstance(node, kind)}


def loaded(file, name):
    return getattr(__import__(f"fewgoings.{file}", fromlist=[name]), name)


def parameters_of(function):
    rows = inspect.signature(function).parameters.values()
    return [f"*{row.name}" if row.kind == row.KEYWORD_ONLY else row.name for row in rows]


def assigned_to_self(node):
    """The attributes that the __init__ in the body of this very class sets."""
    found = set()
    for method in node.body:
        if isinstance(method, ast.FunctionDef) and method.name == "__init__":
            for part in ast.walk(method):
                if isinstance(part, ast.Attribute) and isinstance(part.ctx, ast.Store) and part.value.id == "self":
                    found.add(part.attr)
    return found


class InterfaceTest(unittest.TestCase):
    def test_functions(self):
        for file, functions in FUNCTIONS.items():
            for name, parameters in functions.items():
                self.assertIn(name, defined(file, ast.FunctionDef))
                self.assertEqual(parameters_of(loaded(file, name)), parameters)

    def test_values_of_parameters_that_are_left_out(self):
        for name in ("needs", "shows_needs", "nearest"):
            parameters = inspect.signature(loaded("needing", name)).parameters
            self.assertIs(parameters["turns"].default, False)
            self.assertTrue(name == "nearest" or parameters["within"].default is None)
        self.assertIs(inspect.signature(loaded("passes", "passes")).parameters["turns"].default, False)
        self.assertIs(inspect.signature(loaded("fars", "far_passes")).parameters["turns"].default, False)
        self.assertIs(inspect.signature(loaded("pages", "Page").tried).parameters["keep"].default, False)

    def test_classes(self):
        for file, classes in CLASSES.items():
            for name, (parameters, attributes) in classes.items():
                self.assertLessEqual(set(attributes), assigned_to_self(defined(file, ast.ClassDef)[name]))
                self.assertEqual(parameters_of(loaded(file, name)), parameters)

    def test_methods(self):
        for file, classes in METHODS.items():
            for name, methods in classes.items():
                own = {part.name for part in defined(file, ast.ClassDef)[name].body if isinstance(part, ast.FunctionDef)}
                for method, parameters in methods.items():
                    self.assertIn(method, own)
                    self.assertEqual(parameters_of(getattr(loaded(file, name), method))[1:], parameters)
