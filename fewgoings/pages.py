"""Pages, which hold a text that is edited."""

from fewgoings.blocks import block_of
from fewgoings.commands import program_line
from fewgoings.errors import (
    BadFar, BadPosition, NoIdentity, NoLetter, NothingToRedo, NothingToUndo, NoTrial, OtherSymbols, TooMany,
)
from fewgoings.farforms import MOST_SYMBOLS, far_in_signs, size_of_far
from fewgoings.moments import Moment
from fewgoings.programs import Program
from fewgoings.slices import joined_slices, parted, taken
from fewgoings.states import States
from fewgoings.texts import check_within, is_number
from fewgoings.trials import Trial

MOST_PUTS = 20
MOST_SLICES = 40


class Page:
    """A text that is edited, with a program that works on it.

    moment is what is on the page now; past has the moments that undo leads back to, future those
    that redo leads to, the next one last; before is the moment before the last edit, undo or redo,
    and innermost the trial in which the page is, both None if there is none.
    """

    def __init__(self, program):
        self.moment = Moment(States(program), (), ())
        self.past = ()
        self.future = ()
        self.before = None
        self.innermost = None
        self.journal = (program_line("page", program),)
        self.program = program
        self.length = self.moment.length
        self.slices = self.moment.slices
        self.outcome = self.moment.outcome
        self.many = self.moment.many
        self.passes = self.moment.passes
        self.turns = self.moment.turns

    def __eq__(self, other):
        if not isinstance(other, Page):
            return False
        return self.program == other.program and self.moment.shown() == other.moment.shown()

    def show(self, moment):
        """Makes a moment the present one."""
        self.moment = moment
        self.program = moment.states.program
        self.length = moment.length
        self.slices = moment.slices
        self.outcome = moment.outcome
        self.many = moment.many
        self.passes = moment.passes
        self.turns = moment.turns

    def step(self, moment, line):
        """Goes on to a moment; line is what the journal tells of it."""
        self.before = self.moment
        self.journal = (*self.journal, line)
        self.show(moment)

    def edit(self, states, puts, slices, line):
        """Goes on to a new moment. TooMany."""
        slices = joined_slices(slices)
        if len(slices) > MOST_SLICES:
            raise TooMany(MOST_SLICES)
        moment = Moment(states, puts, slices)
        self.past = (*self.past, self.moment)
        self.future = ()
        self.step(moment, line)

    def put(self, position, far):
        """Puts a far text in, in front of a position; returns its number. BadPosition, BadFar, TooMany."""
        check_within(position, 1, self.length + 1)
        size = size_of_far(self.program.symbols, far)
        if size == 0 or self.length + size > MOST_SYMBOLS:
            raise BadFar(far)
        puts = self.moment.puts
        number = len(puts)
        if number == MOST_PUTS:
            raise TooMany(MOST_PUTS)
        front, rest = parted(self.slices, position - 1)
        slices = [*front, (number, 0, size - 1), *rest]
        line = f"put {position} {far_in_signs(far)}"
        self.edit(self.moment.states, (*puts, (far, block_of(far))), slices, line)
        return number

    def strike(self, first, last):
        """Takes the symbols from one position to another out. BadPosition, TooMany."""
        check_within(first, 1, self.length)
        check_within(last, first, self.length)
        _, others = taken(self.slices, first, last)
        self.edit(self.moment.states, self.moment.puts, others, f"strike {first} {last}")

    def move(self, first, last, position):
        """Puts the symbols from one position to another in front of a third one. BadPosition, TooMany."""
        check_within(first, 1, self.length)
        check_within(last, first, self.length)
        check_within(position, 1, self.length + 1)
        if first < position <= last:
            raise BadPosition(position)
        inner, others = taken(self.slices, first, last)
        before = position - 1 if position <= first else position - 1 - (last - first + 1)
        front, rest = parted(others, before)
        self.edit(self.moment.states, self.moment.puts, front + inner + rest, f"move {first} {last} {position}")

    def reprogram(self, text):
        """Gives the page another program, by its text. BadProgram, OtherSymbols."""
        program = Program(text)
        if program.symbols != self.program.symbols:
            raise OtherSymbols(program)
        self.edit(States(program), self.moment.puts, self.slices, program_line("reprogram", program))

    def undo(self):
        """Takes the last edit back that was not taken back. NothingToUndo."""
        if not self.past:
            raise NothingToUndo(None)
        moment = self.past[-1]
        self.past = self.past[:-1]
        self.future = (*self.future, self.moment)
        self.step(moment, "undo")

    def redo(self):
        """Does the edit again that was taken back last. NothingToRedo."""
        if not self.future:
            raise NothingToRedo(None)
        moment = self.future[-1]
        self.future = self.future[:-1]
        self.past = (*self.past, self.moment)
        self.step(moment, "redo")

    def symbol(self, position):
        """The symbol at a position. BadPosition."""
        check_within(position, 1, self.length)
        return self.moment.symbol_at(position)

    def identity(self, position):
        """(put, index) of the symbol at a position. BadPosition."""
        check_within(position, 1, self.length)
        return self.moment.identity_at(position)

    def position(self, identity):
        """The position of the symbol with an identity, None if there is none now; a mark is no symbol."""
        return self.moment.position_of(identity)

    def written(self, index):
        """(letter, identity) of the letter at an index of the output. NoLetter."""
        if not is_number(index) or not 0 <= index < self.many:
            raise NoLetter(index)
        return self.moment.written_at(index)

    def words(self, identity):
        """The (number, word) of the passes that write at a symbol or mark. NoIdentity."""
        return self.moment.words_behind(self.present(identity))

    def present(self, identity):
        """The position of the symbol or mark with an identity. NoIdentity."""
        position = self.moment.place_of(identity)
        if position is None:
            raise NoIdentity(identity)
        return position

    def touched(self, identity):
        """Whether the words at a symbol or mark are other than before the last edit, undo or redo. NoIdentity."""
        position = self.present(identity)
        if self.before is None:
            return False
        earlier = self.before.place_of(identity)
        if earlier is None:
            return True
        return self.before.words_alone(earlier) != self.moment.words_alone(position)

    def trial(self):
        """What a with statement takes: after its block the page is as before, unless that was kept."""
        return Trial(self)

    def keep(self):
        """Keeps what the innermost trial does. NoTrial."""
        if self.innermost is None:
            raise NoTrial(None)
        self.innermost.kept = True

    def tried(self, look, *, keep=False):
        """What look returns, called with the page in a trial, which is kept if keep is True."""
        with self.trial() as held:
            found = look(held)
            if keep is True:
                held.keep()
        return found

    def copy(self):
        """An independent page that is like this one, outside of all trials."""
        page = Page(self.program)
        page.past = self.past
        page.future = self.future
        page.before = self.before
        page.journal = self.journal
        page.show(self.moment)
        return page
