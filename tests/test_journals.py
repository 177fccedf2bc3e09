"""Section 16: journals."""

import copy
import random
import unittest

from fewgoings.errors import BadFar, BadJournal, PassError
from fewgoings.journals import read_far, read_journal, recover, show_far, stored
from fewgoings.pages import Page
from fewgoings.programs import Program
from tests.fartexts import AT_THE_LIMITS, NO_FARS, deep, drawn_far
from tests.plain import outcome_of, shown
from tests.samples import LAST, NO_STRINGS, TURN, TWICE, program_text
from tests.test_pages import Plain, drawn_edit, state_of

FIRST = "page " + "".join("|" + line for line in TURN.split("\n"))
TWICE_LINES = "".join("|" + line for line in TWICE.split("\n"))
# A journal with a line of each kind.
LINES = (FIRST, "put 1 ab*3", "put 7 (a*2+b*1)*10+b*4", "strike 2 5", "move 1 3 9", f"reprogram {TWICE_LINES}", "undo", "undo",
         "redo", "strike 1 1")


def page_of(lines):
    return read_journal(tuple(lines))


def bad_line(lines):
    """The number that BadJournal has, None if the journal can be read."""
    try:
        read_journal(lines)
    except BadJournal as error:
        return error.value
    return None


def random_page(seed, most=15):
    """A page after some edits, and its plain row."""
    rnd = random.Random(seed)
    program = Program(rnd.choice([TURN, TWICE, LAST]))
    page, plain = Page(program), Plain(program)
    for _ in range(rnd.randint(0, most)):
        name, given = drawn_edit(rnd, plain)
        outcome_of(lambda: plain.do(name, *given))
        outcome_of(lambda: getattr(page, name)(*given))
    return page, plain


class FarTextsTest(unittest.TestCase):
    def test_by_hand(self):
        one = (("x", 1),)
        two = ((one, 2),)
        three = ((two, 3),)
        inner = (("a", 1), ("b", 2))
        for far, text in [
            ((("ab", 3), ((("a", 2), ("b", 1)), 10)), "ab*3+(a*2+b*1)*10"), ((("a", 1),), "a*1"), ((("zz", 10 ** 18),), f"zz*{10 ** 18}"),
            (((one, 1),), "(x*1)*1"), (((three, 4),), "(((x*1)*2)*3)*4"),
            (((((inner, 3), ("c", 4)), 5), ("d", 6)), "((a*1+b*2)*3+c*4)*5+d*6"),
        ]:
            self.assertEqual((show_far(far), read_far(text)), (text, far))
        self.assertEqual((show_far(far=(("a", 2),)), read_far(text="a*2")), ("a*2", (("a", 2),)))

    def test_each_way(self):
        rnd = random.Random(1)
        for far in AT_THE_LIMITS + [drawn_far(rnd, rnd.choice(["ab", "xyz", "q"]), depth=4, most=500) for _ in range(150)]:
            self.assertEqual(show_far(far), shown(far))
            self.assertEqual(read_far(show_far(far)), far)

    def test_bad_far_texts(self):
        for value in NO_FARS:
            kept = copy.deepcopy(value)
            with self.assertRaises(BadFar) as caught:
                show_far(value)
            self.assertIs(caught.exception.value, value)
            self.assertEqual(value, kept)

    def test_what_cannot_be_read(self):
        for value in [
            "", "a", "a*", "*1", "a*0", "a*01", "a*+1", "a*-1", "a* 1", "a *1", " a*1", "a*1 ", "a*1\n", "\na*1", "a*1+", "+a*1",
            "a*1++b*1", "a*1,b*1", "a*1 + b*1", "A*1", "aB*1", "a1*1", "a*1a", "a*b", "(a*1)", "(a*1)*", "()*1", "(a*1*1", "a*1)*1",
            "((a*1)*1", "(a*1))*1", "(a)*1", "(a*1)*0", "(a*1)*02", "(a*1)1", "a**1", "a*1*1", f"a*{10 ** 18 + 1}", f"a*{10 ** 30}",
            "a*1" + "0" * 5000, "a" * 21 + "*1", "+".join(["a*1"] * 7), f"({'+'.join(['a*1'] * 7)})*1", "((((a*1)*1)*1)*1)*1",
            "(" * 3000, "(" * 3000 + "a*1" + ")*1" * 3000, f"(a*{10 ** 6})*{10 ** 18}+a*1", f"(a*{10 ** 6 + 1})*{10 ** 18}", "\xe4*1",
            "a*\u0663", "a*1\u0663", "a*\xb2", "a*1_0", "a*0x1", "a*1.0", "a*1e3", "a(b*1)*2", "(a*1)b*2", "[a*1]*2", "a*1+(b*1)", "%",
            *NO_STRINGS,
        ]:
            kept = copy.deepcopy(value)
            with self.assertRaises(BadFar) as caught:
                read_far(value)
            self.assertIs(caught.exception.value, value)
            self.assertEqual(value, kept)

    def test_signs_put_in_left_out_or_exchanged(self):
        # Whatever can be read is shown just as it was written.
        for text in ["ab*3+(a*2+b*1)*10", "(((x*1)*2)*3)*40", "abc*7"]:
            found = 0
            for at in range(len(text) + 1):
                for sign in ["", *"ab0193()*+ \n-A"]:
                    for other in (text[:at] + sign + text[at:], text[:at] + sign + text[at + 1:]):
                        far = outcome_of(lambda: read_far(other))
                        if far[0] is BadFar:
                            self.assertEqual(far[1], other)
                        else:
                            self.assertEqual(show_far(far), other)
                            found += 1
            self.assertGreater(found, 10)


class JournalTest(unittest.TestCase):
    def test_the_example_of_the_document(self):
        page = Page(Program(TURN))
        page.put(1, (("ab", 2),))
        page.strike(1, 1)
        back, lost = recover(stored(page)[:-1])
        self.assertEqual([page.journal[1:], back.length, lost, read_far("ab*3+(a*2+b*1)*10")],
                         [("put 1 ab*2", "strike 1 1"), 4, 13, (("ab", 3), ((("a", 2), ("b", 1)), 10))])

    def test_the_lines(self):
        page = Page(Program(TURN))
        self.assertEqual(page.journal, ("page |symbols ab|main|  while not at >|    right|  left|  while not at <|    copy|    left",))
        page.put(1, (("ab", 3),))
        page.put(7, ((((("a", 2), ("b", 1)), 10)), ("b", 4)))
        page.strike(2, 5)
        page.move(1, 3, 9)
        page.reprogram(TWICE)
        page.undo()
        page.undo()
        page.redo()
        page.strike(1, 1)
        self.assertEqual(page.journal, LINES)
        self.assertEqual(stored(page), "".join(f"{line} {len(line)}\n" for line in LINES))
        self.assertEqual(stored(page=Page(Program(TURN))), FIRST + f" {len(FIRST)}\n")

    def test_refused_edits_leave_no_line(self):
        page = page_of(LINES)
        for name, given in [("put", (0, (("a", 1),))), ("strike", (0, 1)), ("move", (1, 2, 2)), ("reprogram", ("",)), ("redo", ())]:
            with self.assertRaises(PassError):
                getattr(page, name)(*given)
        self.assertEqual(page.journal, LINES)

    def test_trials_in_the_journal(self):
        page = page_of(LINES)
        with page.trial():
            page.strike(1, 1)
        self.assertEqual(page.journal, LINES)
        with page.trial():
            page.strike(1, 1)
            page.undo()
            page.keep()
        self.assertEqual(page.journal, LINES + ("strike 1 1", "undo"))
        self.assertEqual(state_of(page_of(page.journal)), state_of(page))

    def test_back_to_the_same_page(self):
        for seed in range(60):
            page, plain = random_page(seed)
            back = read_journal(page.journal)
            self.assertTrue(back == page)
            self.assertEqual(state_of(back), state_of(page))
            plain.compare(self, back)
            again, lost = recover(stored(page))
            self.assertEqual((state_of(again), lost), (state_of(page), 0))

    def test_read_journal_of_the_samples(self):
        page = read_journal(lines=LINES)
        self.assertEqual((page.journal, page.program.text, page.slices), (LINES, TURN, page.slices))
        page.undo()
        page.redo()
        with self.assertRaises(PassError):
            page.redo()
        self.assertEqual(page_of([FIRST]), Page(Program(TURN)))

    def test_no_journals(self):
        for value in ["", FIRST, (), [], list(LINES), (FIRST, None), (FIRST, 1), (FIRST, ("undo",)), (None,), (FIRST, "undo", []),
                      *NO_STRINGS]:
            if value in (("a",), ("a", "b")):
                continue
            kept = copy.deepcopy(value)
            with self.assertRaises(BadJournal) as caught:
                read_journal(value)
            self.assertEqual((caught.exception.value, type(caught.exception.value)), (0, int))
            self.assertEqual(value, kept)
        self.assertEqual(bad_line(("a", "b")), 1)

    def test_first_lines(self):
        for line in ["", "page", "page ", "page |", "page |symbols ab", FIRST[5:], "Page" + FIRST[4:], " " + FIRST, FIRST + " ", FIRST + "|",
                     "page  " + FIRST[5:], FIRST + "\n", FIRST.replace("|main", "\nmain"), FIRST.replace("|", ""), FIRST.replace("page |", "page "),
                     FIRST.replace("copy", "copy "), FIRST.replace("left", "lefts"), "put 1 ab*1", "undo", "page " + FIRST, "page\n" + FIRST[5:],
                     FIRST.replace("page |", "page ||"), f"reprogram {FIRST[5:]}", FIRST.replace("|main", "|main\n")]:
            self.assertEqual(bad_line((line,)), 1, line)
            self.assertEqual(bad_line((line, *LINES[1:])), 1)
        for text in (TWICE, LAST, program_text("copy")):
            self.assertEqual(page_of(["page " + "|".join(["", *text.split("\n")])]).program.text, text)

    def test_lines_that_are_not_of_their_form(self):
        for line in ["", "put", "put 1", "put 1 ", "put 1  ab*1", "put  1 ab*1", " put 1 ab*1", "put 1 ab*1 ", "put 01 ab*1", "put +1 ab*1",
                     "put 1 ab*01", "put 1 ab", "put 1 ab*1 1", "Put 1 ab*1", "put 1 ab*1\n", "put\n1 ab*1", "put 1\nab*1", "put 1 (ab*1)", "put one ab*1",
                     "put -1 ab*1", "put 1.0 ab*1", "put \u0661 ab*1", "strike", "strike 1", "strike 1 1 1", "strike 01 1", "strike 1 01", "strike 1  1",
                     "strike 1 1 ", " strike 1 1", "strike 1 1\n", "strike a b", "strike 1, 1", "move 1 1", "move 1 1 2 3", "move 1 1 02", "move  1 1 2",
                     "move 1 1 2 ", "move 1 1 2\n", "undo ", " undo", "undo 1", "undo\n", "Undo", "redo ", "redo 1", "redo\n", "reprogram", "reprogram ",
                     "reprogram  " + TWICE_LINES, " reprogram " + TWICE_LINES, "reprogram " + TWICE_LINES + " ", "reprogram " + TWICE_LINES + "\n",
                     "reprogram " + TWICE_LINES[1:], "reprogram |" + TWICE_LINES, "reprogram " + TWICE_LINES.replace("|main", "\nmain"), FIRST, "passes",
                     "keep", "undo undo", "put 1 ab*1|", "strike", "put 1 AB*1", "length", "recover", "page"]:
            self.assertEqual(bad_line((FIRST, "put 1 ab*3", line)), 3, line)
            self.assertEqual(bad_line((FIRST, "put 1 ab*3", "undo", "redo", line, "undo", "no line")), 5, line)

    def test_lines_that_are_refused(self):
        others = "|".join(["", *program_text("copy", symbols="abc").split("\n")])
        for line in ["put 0 ab*1", "put 8 ab*1", "put 1 abc*1", f"put 1 ab*{10 ** 18 + 1}", "put 1 " + show_far(deep(4))[:-1] + "0" * 30,
                     f"put 1 (a*{10 ** 6})*{10 ** 18}", "strike 0 1", "strike 1 7", "strike 3 2", "strike 7 7", "move 1 7 1", "move 0 0 1", "move 2 4 3",
                     "move 2 4 4", "move 2 4 8", "move 2 4 0", "redo", f"reprogram {others}", "reprogram |", "reprogram |symbols ab|main",
                     "strike 1 " + "9" * 5000, "put " + "9" * 5000 + " a*1", "strike 0 0"]:
            self.assertEqual(bad_line((FIRST, "put 1 ab*3", line)), 3, line[:50])
        self.assertEqual(bad_line((FIRST, "undo")), 2)
        self.assertEqual(bad_line((FIRST, "redo")), 2)
        self.assertEqual(bad_line((FIRST, *["put 1 a*1"] * 20)), None)
        self.assertEqual(bad_line((FIRST, *["put 1 a*1"] * 21)), 22)
        self.assertEqual(bad_line((FIRST, "put 1 ab*100", *[f"strike {at} {at}" for at in range(2, 200, 2)])), 42)
        self.assertEqual(bad_line((FIRST, "put 1 ab*3", "undo", "undo")), 4)
        self.assertEqual(bad_line((FIRST, "put 1 ab*3", "undo", "put 1 a*1", "redo")), 5)

    def test_each_line_with_a_sign_changed(self):
        # A line that is still read is one that a page writes itself.
        found = 0
        for number, line in enumerate(LINES, start=1):
            for at in range(len(line) + 1):
                for sign in ("", "0", "1", " ", "a", "|", "\n", "+"):
                    for other in (line[:at] + sign + line[at:], line[:at] + sign + line[at + 1:]):
                        lines = (*LINES[:number - 1], other, *LINES[number:])
                        try:
                            self.assertEqual(read_journal(lines).journal, lines)
                            found += other != line
                        except BadJournal as error:
                            self.assertGreaterEqual(error.value, number)
                            self.assertLessEqual(error.value, len(lines))
                            self.assertIsNone(bad_line(lines[:error.value - 1]) if error.value > 1 else None)
        self.assertGreater(found, 50)

    def test_pages_of_two_programs(self):
        page = page_of([FIRST, "put 1 ab*2", f"reprogram {TWICE_LINES}", "strike 1 1", "undo", "undo"])
        self.assertEqual((page.program.text, page.length), (TURN, 4))
        page.redo()
        self.assertEqual((page.program.text, page.passes), (TWICE, 2))
        self.assertEqual(page_of(page.journal).program.text, TWICE)


class RecoverTest(unittest.TestCase):
    def test_torn_at_each_character(self):
        pages = [page_of(LINES)] + [random_page(seed, 6)[0] for seed in range(4)]
        for page in pages:
            text = stored(page)
            ends = [len("".join(f"{line} {len(line)}\n" for line in page.journal[:many])) for many in range(len(page.journal) + 1)]
            states = [None] + [state_of(page_of(page.journal[:many])) for many in range(1, len(page.journal) + 1)]
            for size in range(len(text) + 1):
                whole = max(many for many, end in enumerate(ends) if end <= size)
                if whole == 0:
                    with self.assertRaises(BadJournal) as caught:
                        recover(text[:size])
                    self.assertEqual(caught.exception.value, 1)
                else:
                    back, lost = recover(text[:size])
                    self.assertEqual(lost, size - ends[whole])
                    if size - ends[whole] in (0, 1, 5):
                        self.assertEqual(state_of(back), states[whole])
                    self.assertEqual(back.journal, page.journal[:whole])

    def test_a_torn_journal_goes_on(self):
        page = page_of(LINES)
        back, lost = recover(stored(page)[:-3])
        self.assertEqual((back.journal, lost), (LINES[:-1], len(LINES[-1]) + 4 - 3))
        back.strike(1, 1)
        self.assertEqual(state_of(back), state_of(page))

    def test_lines_not_stored_as_told(self):
        first, second, third = [f"{line} {len(line)}\n" for line in LINES[:3]]
        for other in ["put 1 ab*3 11\n", "put 1 ab*3 010\n", "put 1 ab*3  10\n", "put 1 ab*3 10 \n", "put 1 ab*3 +10\n", "put 1 ab*3\n", "put 1 ab*3 \n",
                      "put 1 ab*310\n", "put 1 ab*4 1\n", "\n", " 0\n", "0\n", "put 1 ab*3 9\n", "put 1 ab*3\n10\n", "put 1 ab*3 10", "put 1 ab*3\t10\n",
                      "PUT 1 ab*3 10\n", "put 0 ab*3 10\n", "redo 4\n", "undo 4\n", "put 1 abc*3 11\n", "put 1 ab*3 \u0661\u0660\n", "put 1 ab*3 1" + "0" * 5000 + "\n"]:
            back, lost = recover(first + other + third)
            self.assertEqual((back.journal, lost), (LINES[:1], len(other + third)), other)
            back, lost = recover(first + second + other + third)
            self.assertEqual((back.journal, lost), (LINES[:2], len(other + third))
                             if other not in ("undo 4\n",) else (LINES[:2] + ("undo",), len(third)), other)
        self.assertEqual(recover(first + second + third)[0].journal, LINES[:3])

    def test_what_follows_a_bad_line_is_dropped(self):
        page = page_of(LINES)
        rows = [f"{line} {len(line)}\n" for line in LINES]
        for at in range(1, len(rows)):
            back, lost = recover("".join(rows[:at]) + "x\n" + "".join(rows[at:]))
            self.assertEqual((back.journal, lost), (LINES[:at], 2 + len("".join(rows[at:]))))
        self.assertEqual(recover(text=stored(page))[1], 0)

    def test_nothing_whole(self):
        row = f"{FIRST} {len(FIRST)}\n"
        for text in ["", "\n", " ", "x", row[:-1], row[1:], " " + row, "\n" + row, FIRST, FIRST + "\n", FIRST + " 1\n", f"{FIRST}  {len(FIRST)}\n",
                     "undo 4\n" + row, "page | 6\n", "page 4\n", "0\n", " 0\n", FIRST.replace("main", "man") + f" {len(FIRST) - 1}\n"]:
            with self.assertRaises(BadJournal) as caught:
                recover(text)
            self.assertEqual(caught.exception.value, 1)

    def test_no_strings(self):
        for value in [LINES, *NO_STRINGS]:
            kept = copy.deepcopy(value)
            with self.assertRaises(BadJournal) as caught:
                recover(value)
            self.assertEqual(caught.exception.value, 0)
            self.assertEqual(value, kept)
