"""A desk, which edits a page and answers questions, line by line."""

from fewgoings.commands import do_edit, edit_from
from fewgoings.errors import BadLength, BadLine
from fewgoings.farforms import number_of
from fewgoings.journals import read_journal
from fewgoings.needing import needs
from fewgoings.passes import traces
from fewgoings.sames import lean
from fewgoings.sights import lookahead
from fewgoings.texts import check_within

LONGEST = 100
# How many numbers stand behind the word of a question.
QUESTIONS = {
    "passes": 0, "turns": 0, "many": 0, "length": 0, "outcome": 0, "written": 1, "words": 2, "touched": 2,
    "needs": 0, "lookahead": 1, "lean": 0, "trace": 1,
}


class Desk:
    """The page of a journal, which lines edit or ask."""

    def __init__(self, lines):
        self.page = read_journal(lines)

    def say(self, line):
        """The answer to a line. BadLine, or what the page or function raises that is asked."""
        if not isinstance(line, str):
            raise BadLine(line)
        edit = edit_from(line)
        if edit is not None:
            number = do_edit(self.page, *edit)
            return "done" if number is None else str(number)
        word, *words = line.split(" ")
        numbers = [number_of(number) for number in words]
        if word not in QUESTIONS or QUESTIONS[word] != len(numbers) or None in numbers:
            raise BadLine(line)
        return answer(self.page, word, numbers)


def answer(page, word, numbers):
    """The answer to a question."""
    plain = {
        "passes": page.passes, "turns": page.turns, "many": page.many, "length": page.length, "outcome": page.outcome,
    }
    if word in plain:
        return str(plain[word])
    if word in ("written", "words", "touched"):
        return answer_at(page, word, numbers)
    if word == "needs":
        return needs_answer(page.program)
    if word == "lean":
        return lean_answer(page.program)
    return lookahead_answer(page.program, *numbers) if word == "lookahead" else trace_answer(page, *numbers)


def answer_at(page, word, numbers):
    """The answer to a question about a letter or a symbol."""
    if word == "written":
        letter, identity = page.written(numbers[0])
        return f"{letter} at {identity}" if isinstance(identity, str) else f"{letter} at {identity[0]}:{identity[1]}"
    identity = tuple(numbers)
    if word == "touched":
        return "yes" if page.touched(identity) else "no"
    return in_words([f"{number}:{letters}" for number, letters in page.words(identity)])


def in_words(words):
    """Words with blanks between, or a sign for none."""
    return " ".join(words) if words else "-"


def needs_answer(program):
    """How many passes a program needs at most."""
    found = needs(program)
    if found is None:
        return "none"
    return str(found[1]) if found[0] == "needs" else "endless"


def lookahead_answer(program, number):
    """How many symbols a pass sees ahead."""
    found = lookahead(program, number)
    return str(found[1]) if found[0] == "sees" else "endless"


def lean_answer(program):
    """The lines of the statements that can be left out."""
    _, steps = lean(program)
    lines = [line for line, result in steps if result is not None and result[0] == "same"]
    return in_words([str(line) for line in sorted(lines)])


def trace_answer(page, position):
    """The trace at a position of a page that is not too long."""
    if page.length > LONGEST:
        raise BadLength(page.length)
    check_within(position, 0, page.length + 1)
    text = "".join([page.symbol(place) for place in range(1, page.length + 1)])
    return in_words(traces(page.program, text)[position])
