"""Programs."""

from fewgoings.parsing import parse


class Program:
    """A program that walks over a text and writes letters.

    cells has (name, most) for each cell, parts the names of the parts, letters all letters that
    some statement may write. statements has each Statement under the number of its line, first is
    the line of the first statement of main.
    """

    def __init__(self, text):
        parser = parse(text)
        self.text = text
        self.symbols = parser.symbols
        self.cells = tuple(parser.mosts.items())
        self.parts = tuple(parser.starts)
        self.statements = parser.statements
        self.first = parser.first
        self.letters = letters_of(self)

    def __eq__(self, other):
        return isinstance(other, Program) and self.text == other.text


def letters_of(program):
    """The ascending tuple of all letters that some statement of a program may write."""
    statements = list(program.statements.values())
    letters = [statement.given for statement in statements if statement.word == "write"]
    if "copy" in [statement.word for statement in statements]:
        letters.extend(list(program.symbols))
    return tuple(sorted(set(letters)))
