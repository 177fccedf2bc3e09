"""Readers, which follow one pass over a text that comes in symbol by symbol."""

from fewgoings.errors import BadSymbol, Barred, Closed, OtherSymbols
from fewgoings.following import Follower
from fewgoings.sheets import Sheet
from fewgoings.writers import writer


class Reader:
    """Tells what a pass of a program writes as soon as no continuation of the text can change it.

    text is what was read, told has the ascending (position, word) of all settled positions, held
    the positions that were read and are not settled. BadPass, TooMany.
    """

    def __init__(self, program, number):
        self.symbols = program.symbols
        self.follower = follower_of(program, number)
        self.text = ""
        self.is_closed = False
        self.told = ()
        self.held = (0,)
        self.tell(self.follower.settled)

    def tell(self, rows):
        """Moves the positions of some ascending (position, word) from held to told."""
        if not rows:
            return
        fresh = dict(rows)
        # Else none of them was held, and a long tuple need not be made anew.
        if self.held and self.held[-1] >= rows[0][0]:
            self.held = tuple([position for position in self.held if position not in fresh])
        told = (*self.told, *rows)
        self.told = told if not self.told or self.told[-1] < rows[0] else tuple(sorted(told))

    def feed(self, symbol):
        """Reads a symbol; returns the (position, word) of what is settled by it. Closed, BadSymbol."""
        if self.is_closed:
            raise Closed(None)
        if not isinstance(symbol, str) or len(symbol) != 1 or symbol not in self.symbols:
            raise BadSymbol(symbol)
        self.text += symbol
        rows = self.follower.feed(symbol)
        if not rows or rows[-1][0] < len(self.text):
            self.held = (*self.held, len(self.text))
        self.tell(rows)
        return tuple(rows)

    def close(self):
        """Reads the right mark; returns the (position, word) of all that was not settled. Closed."""
        if self.is_closed:
            raise Closed(None)
        self.is_closed = True
        rows = self.follower.close()
        self.tell(rows)
        return tuple(rows)

    def move(self, program, number):
        """Goes on with a pass of another program; returns what is settled only by that.

        Closed, OtherSymbols, BadPass, TooMany; Barred if it does not settle what was told.
        """
        if self.is_closed:
            raise Closed(None)
        if program.symbols != self.symbols:
            raise OtherSymbols(program)
        follower = follower_of(program, number)
        for symbol in self.text:
            follower.feed(symbol)
        words = dict(follower.settled)
        for position, word in self.told:
            if words.get(position) != word:
                raise Barred(position)
        before = dict(self.told)
        rows = sorted([row for row in follower.settled if row[0] not in before])
        self.follower = follower
        self.tell(rows)
        return tuple(rows)


def follower_of(program, number):
    """A Follower of the least writer of a pass."""
    return Follower(Sheet(program.symbols, writer(program, number)))
