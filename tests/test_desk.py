"""Section 17: a desk."""

import copy
import random
import unittest

from fewgoings.desk import Desk
from fewgoings.errors import (
    BadFar, BadJournal, BadLength, BadLine, BadPass, BadPosition, BadProgram, NoIdentity, NoLetter, NothingToRedo,
    NothingToUndo, OtherSymbols, TooMany,
)
from fewgoings.journals import read_far, read_journal
from fewgoings.needing import needs
from fewgoings.pages import Page
from fewgoings.passes import traces
from fewgoings.programs import Program
from fewgoings.sames import lean
from fewgoings.sights import lookahead
from tests.plain import outcome_of, shown
from tests.randoms import Sweeper
from tests.samples import (
    LAST, LOOP_AT_B, MANY_PREFIXES, NEXT, NO_STRINGS, ONE_RIGHT_STATE_MORE, ONE_SUFFIX_MORE, THREE_BACK, TURN, TWICE, program_text,
)
from tests.test_pages import Plain, drawn_edit, state_of


def lines_of(text):
    return "".join("|" + line for line in text.split("\n"))


def line_of(name, given):
    """The line of an edit, None if one of its arguments cannot stand in a line."""
    words = [name]
    for value in given:
        if isinstance(value, tuple):
            words.append(shown(value))
        elif isinstance(value, str) and name == "reprogram":
            words.append(lines_of(value))
        elif type(value) is int and 0 <= value < 10 ** 25:
            words.append(str(value))
        else:
            return None
    return " ".join(words)


def desk_of(text, *lines):
    return Desk(("page " + lines_of(text), *lines))


COPY = program_text("while not at >", "  copy", "  right")
NEVER = program_text("while at <", "  write x")
# More than one letter at a place, at both marks, too.
MARKS = program_text("write x", "write y", "while not at >", "  copy", "  copy", "  right", "write z", "while not at <", "  left",
                     "write q")


class DeskTest(unittest.TestCase):
    def test_the_example_of_the_document(self):
        desk = Desk(("page |symbols ab|main|  while not at >|    right|  left|  while not at <|    copy|    left",))
        said = [desk.say(line) for line in ("put 1 ab*3", "passes", "written 0", "words 0 0", "needs", "trace 2")]
        self.assertEqual(said, ["0", "6", "b at 0:5", "6:a", "endless", "above b below"])

    def test_the_page_of_a_journal(self):
        lines = ("page " + lines_of(TURN), "put 1 ab*2", "strike 1 1", "undo")
        desk = Desk(lines=lines)
        self.assertEqual((type(desk.page), desk.page.journal), (Page, lines))
        self.assertIn("page", vars(desk))
        self.assertEqual(state_of(desk.page), state_of(read_journal(lines)))
        for value, number in [((), 0), (None, 0), (list(lines), 0), (("page",), 1), ((*lines, "undo", "undo"), 6), ((lines[0], "passes"), 2)]:
            with self.assertRaises(BadJournal) as caught:
                Desk(value)
            self.assertEqual(caught.exception.value, number)

    def test_edits_as_lines(self):
        for seed in range(40):
            rnd = random.Random(seed)
            program = Program(rnd.choice([TURN, TWICE, NEXT]))
            desk, plain = Desk(("page " + lines_of(program.text),)), Plain(program)
            for _ in range(15):
                name, given = drawn_edit(rnd, plain, 0.05)
                line = line_of(name, given)
                if line is None:
                    continue
                expected = outcome_of(lambda: plain.do(name, *given))
                if expected is None or isinstance(expected, int):
                    expected = "done" if expected is None else str(expected)
                self.assertEqual(outcome_of(lambda: desk.say(line)), expected)
                plain.compare(self, desk.page)
                self.ask_all(desk, rnd)

    def ask_all(self, desk, rnd):
        """Compares the answers with the page itself."""
        page = desk.page
        for word in ("passes", "turns", "many", "length", "outcome"):
            self.assertEqual(desk.say(word), str(getattr(page, word)))
        for index in range(min(page.many, 4)):
            letter, identity = page.written(index)
            place = identity if isinstance(identity, str) else f"{identity[0]}:{identity[1]}"
            self.assertEqual(desk.say(f"written {index}"), f"{letter} at {place}")
        text = "".join(page.symbol(at) for at in range(1, page.length + 1))
        for position in sorted({0, 1, page.length, page.length + 1}):
            if page.length <= 100:
                trace = traces(page.program, text)[position] if position < page.length + 2 else ()
                self.assertEqual(desk.say(f"trace {position}"), " ".join(trace) or "-")
            if 1 <= position <= page.length:
                put, index = page.identity(position)
                words = page.words((put, index))
                self.assertEqual(desk.say(f"words {put} {index}"), " ".join(f"{number}:{word}" for number, word in words) or "-")
                self.assertEqual(desk.say(f"touched {put} {index}"), "yes" if page.touched((put, index)) else "no")

    def test_kinds_of_answers(self):
        desk = desk_of(MARKS, "put 1 ab*2", "put 1 b*1")
        for line, answer in [
            ("length", "5"), ("outcome", "done"), ("many", "14"), ("passes", "2"), ("turns", "2"), ("written 0", "x at <"),
            ("written 12", "z at >"), ("written 13", "q at <"), ("written 2", "b at 1:0"), ("words 0 3", "1:bb"), ("touched 1 0", "yes"),
            ("touched 0 3", "no"), ("trace 0", "x y above q"), ("trace 1", "below b b above below"), ("trace 6", "below z below"),
        ]:
            self.assertEqual(desk.say(line), answer, line)
        desk = desk_of(LAST, "put 1 ab*2")
        self.assertEqual([desk.say("words 0 0"), desk.say("trace 3"), desk.say("lean"), desk.say("needs")], ["-", "below", "-", "1"])
        desk = desk_of(NEVER, "put 1 ab*2")
        said = [desk.say(line) for line in ("outcome", "many", "passes", "turns", "words 0 0", "trace 0", "needs", "trace 5")]
        self.assertEqual(said, ["ever", "0", "0", "0", "-", "-", "none", "-"])
        desk = desk_of(TWICE, "put 1 ab*2")
        self.assertEqual([desk.say("words 0 0"), desk.say("passes"), desk.say("turns"), desk.say("needs")], ["1:a 2:a", "2", "3", "2"])

    def test_long_pages(self):
        desk = desk_of(TURN, f"put 1 (ab*{10 ** 18})*500000", f"strike 1 {10 ** 23}")
        size = 10 ** 24 - 10 ** 23
        self.assertEqual([desk.say("passes"), desk.say("length"), desk.say("written 0"), desk.say(f"written {size - 1}")],
                         [str(size), str(size), f"b at 0:{10 ** 24 - 1}", f"a at 0:{10 ** 23}"])
        self.assertEqual([desk.say(f"words 0 {10 ** 23}"), desk.say(f"words 0 {10 ** 24 - 1}")], [f"{size}:a", "1:b"])
        with self.assertRaises(BadLength) as caught:
            desk.say("trace 0")
        self.assertEqual(caught.exception.value, size)

    def test_needs(self):
        for text, answer in [(TURN, "endless"), (TWICE, "2"), (LAST, "1"), (NEVER, "none"), (LOOP_AT_B, "0"), (program_text("stop"), "0"),
                             (COPY, "1")]:
            self.assertEqual(desk_of(text).say("needs"), answer)
            found = needs(Program(text))
            self.assertEqual(answer, "none" if found is None else "endless" if found[0] == "endless" else str(found[1]))
        with self.assertRaises(TooMany) as caught:
            desk_of(ONE_SUFFIX_MORE).say("needs")
        self.assertEqual(caught.exception.value, 60)

    def test_lookahead(self):
        for text in (TURN, TWICE, LAST, NEXT, COPY):
            for number in range(1, 10):
                found = lookahead(Program(text), number)
                self.assertEqual(desk_of(text).say(f"lookahead {number}"), "endless" if found[0] == "endless" else str(found[1]))
        self.assertEqual([desk_of(LAST).say("lookahead 1"), desk_of(NEXT).say("lookahead 1"), desk_of(COPY).say("lookahead 9")],
                         ["endless", "1", "0"])
        for number in (0, 10, 10 ** 24):
            with self.assertRaises(BadPass) as caught:
                desk_of(TURN).say(f"lookahead {number}")
            self.assertEqual(caught.exception.value, number)
        for text, line, many in [(ONE_SUFFIX_MORE, "lookahead 1", 60), (ONE_RIGHT_STATE_MORE, "lookahead 7", 40)]:
            with self.assertRaises(TooMany) as caught:
                desk_of(text).say(line)
            self.assertEqual(caught.exception.value, many)

    def test_lean(self):
        longer = program_text("right", "right", "left", "while not at >", "  copy", "  right", "stop")
        for text in (TURN, TWICE, LAST, longer, THREE_BACK, MANY_PREFIXES, *[Sweeper(seed).program() for seed in range(8)]):
            lines = sorted(line for line, result in lean(Program(text))[1] if result is not None and result[0] == "same")
            self.assertEqual(desk_of(text).say("lean"), " ".join(map(str, lines)) or "-")
        self.assertEqual([desk_of(TURN).say("lean"), desk_of(COPY).say("lean"), desk_of(longer).say("lean")], ["5", "-", "4 9"])

    def test_the_length_of_traces(self):
        desk = desk_of(COPY, "put 1 ab*50")
        self.assertEqual([desk.say("trace 0"), desk.say("trace 100"), desk.say("trace 101")], ["above", "below b", "below"])
        with self.assertRaises(BadPosition) as caught:
            desk.say("trace 102")
        self.assertEqual(caught.exception.value, 102)
        desk.say("put 1 a*1")
        for position in (0, 5, 102, 103, 10 ** 24):
            with self.assertRaises(BadLength) as caught:
                desk.say(f"trace {position}")
            self.assertEqual(caught.exception.value, 101)
        desk.say("undo")
        self.assertEqual(desk.say("trace 0"), "above")

    def test_the_program_of_the_page(self):
        desk = desk_of(TURN, "put 1 ab*2")
        self.assertEqual([desk.say("needs"), desk.say(f"reprogram {lines_of(TWICE)}"), desk.say("needs"), desk.say("undo"), desk.say("needs")],
                         ["endless", "done", "2", "done", "endless"])

    def test_names_of_the_parameters(self):
        self.assertEqual(desk_of(TURN).say(line="length"), "0")


class LinesTest(unittest.TestCase):
    def check_bad(self, desk, line):
        kept = state_of(desk.page)
        other = copy.deepcopy(line)
        with self.assertRaises(BadLine) as caught:
            desk.say(line)
        self.assertIs(caught.exception.value, line)
        self.assertEqual(line, other)
        self.assertEqual(state_of(desk.page), kept)

    def test_no_lines(self):
        desk = desk_of(TURN, "put 1 ab*3")
        for line in ["", " ", "page", desk.page.journal[0], "Passes", "passes ", " passes", "passes 1", "passes\n", "\npasses", "pass", "turns turns",
                     "many  ", "length\t", "outcome done", "written", "written ", "written  0", "written 00", "written 01", "written +1", "written -1",
                     "written 0 ", " written 0", "written 0\n", "written a", "written 0 0", "written \u0661", "written 1.0", "words", "words 0", "words 0 0 0",
                     "words 0  0", "words 00 0", "words 0 00", "words 0:0", "words <", "words >", "words 0 -1", "words 0 0\n", "touched", "touched 0",
                     "touched < ", "touched 0 0 ", "touched 0 0 0", "needs 1", "needs ", "lookahead", "lookahead ", "lookahead a", "lookahead 01",
                     "lookahead 1 1", "lookahead -1", "lean 1", "lean ", "trace", "trace ", "trace <", "trace 01", "trace 0 0", "trace -1", "trace 0\n",
                     "symbol 1", "identity 1", "position 0 0", "keep", "trial", "copy", "journal", "slices", "program", "undo 1", "undo ", "redo\n", "put",
                     "put 1", "put 1 ab", "put 1 ab*0", "put 1 ab*01", "put 01 ab*1", "put 1 ab*1 ", "put 1  ab*1", "put 1 (ab*1)", "put -1 ab*1",
                     f"put 1 ab*{10 ** 18 + 1}", f"put 1 (a*{10 ** 6 + 1})*{10 ** 18}", "put 1 " + "a" * 21 + "*1", "put 1 AB*1", "strike 1", "strike 1 1 1",
                     "strike 1 01", "strike a 1", "move 1 1", "move 1 1 1 1", "move 1 1 +1", "reprogram", "reprogram ", "reprogram x", "reprogram  |x",
                     "reprogram |symbols ab\n|main", "reprogram " + lines_of(TWICE) + "\n", "reprogram " + lines_of(TWICE)[1:], "REDO",
                     *NO_STRINGS, ("passes",), ["passes"]]:
            self.check_bad(desk, line)

    def test_numbers_of_twenty_five_digits(self):
        desk = desk_of(TURN, "put 1 ab*3")
        long, longer = "9" * 25, "1" + "0" * 25
        for line, error, value in [
            (f"written {long}", NoLetter, int(long)), (f"words 0 {long}", NoIdentity, (0, int(long))), (f"words {long} 0", NoIdentity, (int(long), 0)),
            (f"touched {long} {long}", NoIdentity, (int(long), int(long))), (f"lookahead {long}", BadPass, int(long)),
            (f"trace {long}", BadPosition, int(long)), (f"put {long} a*1", BadPosition, int(long)), (f"strike {long} 1", BadPosition, int(long)),
            (f"strike 1 {long}", BadPosition, int(long)), (f"move 1 1 {long}", BadPosition, int(long)),
        ]:
            kept = state_of(desk.page)
            with self.assertRaises(error) as caught:
                desk.say(line)
            self.assertEqual(caught.exception.value, value)
            self.assertEqual(state_of(desk.page), kept)
            self.check_bad(desk, line.replace(long, longer))
            self.check_bad(desk, line.replace(long, "9" * 5000))

    def test_errors_of_the_methods(self):
        desk = desk_of(TURN, "put 1 ab*3")
        others = program_text("copy", symbols="abc")
        for line, error, value in [
            ("written 6", NoLetter, 6), ("words 0 6", NoIdentity, (0, 6)), ("words 1 0", NoIdentity, (1, 0)), ("touched 1 0", NoIdentity, (1, 0)),
            ("lookahead 0", BadPass, 0), ("trace 8", BadPosition, 8), ("put 0 ab*1", BadPosition, 0), ("put 8 ab*1", BadPosition, 8),
            ("put 1 abc*1", BadFar, read_far("abc*1")), ("put 9 abc*1", BadPosition, 9), ("put 1 (x*2)*3", BadFar, read_far("(x*2)*3")),
            (f"put 1 (a*{10 ** 6})*{10 ** 18}", BadFar, read_far(f"(a*{10 ** 6})*{10 ** 18}")), ("strike 0 0", BadPosition, 0), ("strike 3 2", BadPosition, 2),
            ("move 1 3 2", BadPosition, 2), ("move 1 7 1", BadPosition, 7), ("redo", NothingToRedo, None), ("reprogram |", BadProgram, 1),
            ("reprogram |symbols ab|main", BadProgram, 3), ("reprogram |symbols ab |main|  copy", BadProgram, 1), ("reprogram | ", BadProgram, 1),
            (f"reprogram {lines_of(TWICE)} ", BadProgram, 10), (f"reprogram {lines_of(others)}", OtherSymbols, Program(others)),
        ]:
            kept = state_of(desk.page)
            with self.assertRaises(error) as caught:
                desk.say(line)
            self.assertEqual(caught.exception.value, value)
            self.assertEqual(state_of(desk.page), kept)
        desk.say("undo")
        with self.assertRaises(NothingToUndo):
            desk.say("undo")
        self.assertEqual(desk.say("redo"), "done")
        for number in range(1, 20):
            self.assertEqual(desk.say("put 1 a*1"), str(number))
        with self.assertRaises(TooMany) as caught:
            desk.say("put 1 a*1")
        self.assertEqual(caught.exception.value, 20)

    def test_a_line_behind_a_struck_symbol(self):
        desk = desk_of(TURN, "put 1 ab*3", "strike 2 2")
        for word in ("words", "touched"):
            with self.assertRaises(NoIdentity) as caught:
                desk.say(f"{word} 0 1")
            self.assertEqual(caught.exception.value, (0, 1))
        self.assertEqual(desk.say("words 0 2"), "4:a")
