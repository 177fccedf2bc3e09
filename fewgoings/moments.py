"""What is on a page between two edits."""

from fewgoings.blocks import cut, in_a_row, marked_block, sign_at
from fewgoings.slices import identity_in, length_of, position_in
from fewgoings.texts import is_number
from fewgoings.walks import Walk, outcome_and_tally, words_at


class Moment:
    """A program, given with its States, and a text in slices; nothing in it ever changes.

    puts has (far text, its block) by the numbers of the puts. outcome, many, passes and turns tell
    of the run on the text.
    """

    def __init__(self, states, puts, slices):
        self.states = states
        self.puts = puts
        self.slices = slices
        self.length = length_of(slices)
        outcome, tally = outcome_and_tally([states], self.whole())
        self.outcome = outcome
        self.many = tally.many
        self.passes = tally.many_passes()
        self.turns = tally.many_turns()

    def whole(self):
        """The block of the text with its marks."""
        rows = [in_a_row(cut(self.puts[put][1], first, last)) for put, first, last in self.slices]
        return marked_block(in_a_row(rows))

    def shown(self):
        """(far text, first, last) for all slices."""
        return [(self.puts[put][0], first, last) for put, first, last in self.slices]

    def identity_at(self, position):
        """The identity of what is at a position: that of a symbol, or the mark itself."""
        if position == 0:
            return "<"
        return ">" if position > self.length else identity_in(self.slices, position)

    def position_of(self, identity):
        """The position of the symbol with an identity; None for any value that is of none, also for a mark."""
        if not isinstance(identity, tuple) or len(identity) != 2 or not all([is_number(part) for part in identity]):
            return None
        return position_in(self.slices, identity)

    def place_of(self, identity):
        """The position of a mark, or of the symbol with an identity; None for any other value."""
        if identity in ("<", ">"):
            return 0 if identity == "<" else self.length + 1
        return self.position_of(identity)

    def symbol_at(self, position):
        """The symbol at a position."""
        put, index = identity_in(self.slices, position)
        return sign_at(self.puts[put][1], index)

    def written_at(self, index):
        """(letter, identity) of the letter at an index of the output."""
        letter, position = Walk(self.states).letter(self.whole(), index)
        return letter, self.identity_at(position)

    def words_behind(self, position):
        """The (number, word) of the passes that write at a position."""
        return words_at(Walk(self.states), self.whole(), position)

    def words_alone(self, position):
        """The words at a position without the numbers of their passes."""
        return [word for _, word in self.words_behind(position)]
