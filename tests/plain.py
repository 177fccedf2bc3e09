"""A page as a plain row of symbols with identities, to compare with."""

from fewgoings.errors import (
    BadFar, BadPosition, BadProgram, NothingToRedo, NothingToUndo, OtherSymbols, PassError, TooMany,
)
from fewgoings.passes import passes
from fewgoings.programs import Program
from fewgoings.runs import run
from tests.fartexts import text_of


def shown(far):
    """A far text as a journal has it."""
    return "+".join(f"{piece if isinstance(piece, str) else '(' + shown(piece) + ')'}*{times}" for piece, times in far)


def slices_of(row):
    """The slices of a row of (symbol, (put, index))."""
    found = []
    for _, (put, index) in row:
        if found and found[-1][0] == put and found[-1][2] + 1 == index:
            found[-1][2] = index
        else:
            found.append([put, index, index])
    return tuple(map(tuple, found))


class Plain:
    """What a page should be: present, past and future are (program, fars, row)."""

    def __init__(self, program):
        self.present = (program, (), ())
        self.past, self.future, self.before = [], [], None
        self.journal = ["page " + "".join("|" + line for line in program.text.split("\n"))]

    def row(self):
        return self.present[2]

    def text(self):
        return "".join(symbol for symbol, _ in self.row())

    def do(self, name, *given):
        """Does an edit, undo or redo; returns what the method should return."""
        if name in ("undo", "redo"):
            source, other, error = ((self.past, self.future, NothingToUndo) if name == "undo"
                                    else (self.future, self.past, NothingToRedo))
            if not source:
                raise error(None)
            self.before = self.present
            other.append(self.present)
            self.present = source.pop()
            self.journal.append(name)
            return None
        result, after, words = getattr(self, name)(*given)
        if len(slices_of(after[2])) > 40:
            raise TooMany(40)
        self.before = self.present
        self.past.append(self.present)
        self.future.clear()
        self.present = after
        self.journal.append(" ".join([name, *words]))
        return result

    def check(self, value, first, last):
        if type(value) is not int or not first <= value <= last:
            raise BadPosition(value)

    def put(self, position, far):
        program, fars, row = self.present
        self.check(position, 1, len(row) + 1)
        if set(text_of(far)) - set(program.symbols):
            raise BadFar(far)
        if len(fars) == 20:
            raise TooMany(20)
        fresh = tuple((symbol, (len(fars), index)) for index, symbol in enumerate(text_of(far)))
        after = (program, fars + (far,), row[:position - 1] + fresh + row[position - 1:])
        return len(fars), after, [str(position), shown(far)]

    def strike(self, first, last):
        program, fars, row = self.present
        self.check(first, 1, len(row))
        self.check(last, first, len(row))
        return None, (program, fars, row[:first - 1] + row[last:]), [str(first), str(last)]

    def move(self, first, last, position):
        program, fars, row = self.present
        self.check(first, 1, len(row))
        self.check(last, first, len(row))
        self.check(position, 1, len(row) + 1)
        if position in range(first + 1, last + 1):
            raise BadPosition(position)
        inner = row[first - 1:last]
        front = tuple(each for each in row[:position - 1] if each not in inner)
        behind = tuple(each for each in row[position - 1:] if each not in inner)
        return None, (program, fars, front + inner + behind), [str(first), str(last), str(position)]

    def reprogram(self, text):
        program, fars, row = self.present
        other = Program(text)
        if other.symbols != program.symbols:
            raise OtherSymbols(other)
        return None, (other, fars, row), ["".join("|" + line for line in text.split("\n"))]

    def identities(self):
        return ["<", *[identity for _, identity in self.row()], ">"]

    def words(self, present):
        """{identity: ((number, word), ..)} of a (program, fars, row)."""
        program, _, row = present
        places = ["<", *[identity for _, identity in row], ">"]
        found = {identity: [] for identity in places}
        for number, rows in enumerate(passes(program, "".join(symbol for symbol, _ in row)), start=1):
            for position, word in rows:
                found[places[position]].append((number, word))
        return {identity: tuple(rows) for identity, rows in found.items()}

    def touched(self):
        """{identity: whether it was touched}."""
        now = self.words(self.present)
        if self.before is None:
            return {identity: False for identity in now}
        then = self.words(self.before)
        return {identity: identity not in then or [word for _, word in then[identity]] != [word for _, word in rows]
                for identity, rows in now.items()}

    def compare(self, case, page):
        """Compares a page in all that can be asked of it."""
        program, fars, row = self.present
        text, places = self.text(), self.identities()
        case.assertEqual((page.program, page.length, page.slices), (program, len(text), slices_of(row)))
        case.assertEqual(page.journal, tuple(self.journal))
        result = run(program, text)
        output = result[1] if result[0] == "done" else ()
        case.assertEqual((page.outcome, page.many, page.passes, page.turns), (
            result[0], len(output), len(passes(program, text)), len(passes(program, text, turns=True))))
        case.assertEqual([page.symbol(at) for at in range(1, len(text) + 1)], list(text))
        case.assertEqual([page.identity(at) for at in range(1, len(text) + 1)], places[1:-1])
        case.assertEqual([page.position(identity) for identity in places], [None, *range(1, len(text) + 1), None])
        for index in range(0, len(output), 1 + len(output) // 5):
            letter, position = output[index]
            case.assertEqual(page.written(index), (letter, places[position]))
        words, touched = self.words(self.present), self.touched()
        for at in range(0, len(places), 1 + len(places) // 6):
            case.assertEqual(page.words(places[at]), words[places[at]])
            case.assertIs(page.touched(places[at]), touched[places[at]])


def outcome_of(call):
    """What a call returns, or the kind and the value of its error."""
    try:
        return call()
    except PassError as error:
        return type(error), error.value if not isinstance(error.value, Program) else error.value.text


KINDS = (BadFar, BadPosition, BadProgram, NothingToRedo, NothingToUndo, OtherSymbols, TooMany)
