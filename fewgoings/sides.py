"""Prefixes and suffixes as a run sees them that enters and leaves them."""

from fewgoings.states import ENDLESS, OVER


class Side:
    """The rows of all prefixes (out is 1), or of all suffixes (out is -1).

    A row has an exit for each entry and, of a prefix, behind them one for the beginning of the
    run. An exit is (move, state, word): the run leaves in the direction of out in this state, or
    move is 0 and the state OVER or ENDLESS; word is the class of what is written meanwhile, 0 for
    ENDLESS. So equivalent prefixes are those with equal rows.
    """

    def __init__(self, states, words, out):
        self.states = states
        self.words = words
        self.out = out
        self.entries = states.from_right if out == 1 else states.from_left

    def first_row(self):
        """The row of a mark alone."""
        mark = "<" if self.out == 1 else ">"
        starts = list(self.entries) + ([0] if self.out == 1 else [])
        return tuple([self.exit_at_mark(state, mark) for state in starts])

    def exit_at_mark(self, state, mark):
        """The exit of a mark alone that is entered in a state."""
        move, state, letters = self.states.visit(state, mark)
        return move, state, self.words.class_of(letters)

    def longer_row(self, row, sign):
        """The row with one more symbol on the side that the run comes from."""
        exits = [self.exit_from(row, sign, state, 0) for state in self.entries]
        if self.out == 1:
            move, state, word = row[-1]
            exits.append(self.exit_from(row, sign, state, word) if move else row[-1])
        return tuple(exits)

    def exit_from(self, row, sign, state, word):
        """The exit if the run comes to the new symbol in a state and word was written before."""
        seen = {}
        while state not in seen:
            seen[state] = True
            move, state, letters = self.states.visit(state, sign)
            word = self.words.joined(word, self.words.class_of(letters))
            if state != ENDLESS and move != -self.out:
                return move, state, word
            if state == ENDLESS:
                return 0, ENDLESS, 0
            move, state, more = row[self.entries[state]]
            word = self.words.joined(word, more)
            if state == ENDLESS:
                return 0, ENDLESS, 0
            if state == OVER:
                return 0, OVER, word
        return 0, ENDLESS, 0
