"""Chains of two programs."""

from fewgoings.errors import OtherSymbols


class Chain:
    """Two programs, of which other works on what one writes; symbols are those of one."""

    def __init__(self, one, other):
        if [letter for letter in one.letters if letter not in other.symbols]:
            raise OtherSymbols(other)
        self.one = one
        self.other = other
        self.symbols = one.symbols

    def __eq__(self, other):
        return isinstance(other, Chain) and self.one == other.one and self.other == other.other
