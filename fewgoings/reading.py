"""How a writer reads blocks."""

from fewgoings.blocks import cut, sign_at
from fewgoings.sheets import Sheet


class Reading:
    """Reads blocks from one side, given for each state, by symbol, the next one.

    direction is 1 for reading from the left to the right, -1 for the other way.
    """

    def __init__(self, moves, direction):
        self.moves = moves
        self.direction = direction
        self.known = {}

    def state_behind(self, block, state):
        """The state behind a block that is read from a state on."""
        if block.sign:
            return self.moves[state][block.sign]
        key = (block, state)
        if key not in self.known:
            for _, part in block.parts[::self.direction]:
                state = self.state_behind(part, state)
            self.known[key] = state
        return self.known[key]

    def state_over(self, blocks):
        """The state behind some blocks, which stand one behind the other from the left to the right."""
        state = 0
        for block in blocks[::self.direction]:
            state = self.state_behind(block, state)
        return state


def word_of_writer(symbols, writer, block, position):
    """The word that a writer writes at a position of a block with its marks."""
    sheet = Sheet(symbols, writer)
    left = Reading(sheet.lefts, 1).state_over(cut(block, 1, position - 1))
    right = Reading(sheet.rights, -1).state_over(cut(block, position + 1, block.length - 2))
    sign = sign_at(block, position)
    if sign in "<>":
        return sheet.first_word(right) if sign == "<" else sheet.last_word(left)
    return sheet.word_at(left, sign, right)
