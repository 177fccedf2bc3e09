"""Section 15: pages."""

import copy
import random
import unittest

from fewgoings.errors import (
    BadFar, BadPosition, BadProgram, NoIdentity, NoLetter, NothingToRedo, NothingToUndo, NoTrial, OtherSymbols, TooMany,
)
from fewgoings.fars import far_many, far_passes, far_words, far_written
from fewgoings.pages import Page
from fewgoings.programs import Program
from tests.fartexts import AT_THE_LIMITS, NO_FARS, drawn_far
from tests.machines import COPY, NEVER, main
from tests.plain import KINDS, Plain, outcome_of, slices_of
from tests.randoms import Maker, Sweeper
from tests.samples import LAST, LOOP_AT_B, MANY_PREFIXES, NEXT, NO_STRINGS, TURN, TWICE, program_text

PROGRAMS = [TURN, TWICE, LAST, NEXT, LOOP_AT_B, MANY_PREFIXES, COPY.text]


def state_of(page):
    """All that can be seen of a page, what undo and redo lead to as well."""
    seen = [page.program, page.length, page.slices, page.outcome, page.many, page.passes, page.turns, page.journal]
    for name in ("undo", "redo"):
        other = page.copy()
        while outcome_of(getattr(other, name)) is None:
            seen.append((other.program.text, other.slices))
    touched = [page.touched("<"), page.touched(">"), *[page.touched(page.identity(at)) for at in range(1, min(page.length, 9) + 1)]]
    return [*seen, touched]


def drawn_edit(rnd, plain, wild=0.1):
    """(name, arguments) of an edit, undo or redo that may be refused."""
    size = len(plain.row())

    def number(first, last):
        if rnd.random() < wild:
            return rnd.choice([first - 1, last + 1, 0, -1, True, None, "1", 10 ** 30, size + 1, size + 2])
        return rnd.randint(min(first, last), max(first, last))

    name = rnd.choice(["put"] * 4 + ["strike"] * 2 + ["move"] * 4 + ["reprogram"] + ["undo"] * 3 + ["redo"] * 2)
    if name == "put":
        symbols = "ab" if rnd.random() > wild else "abc"
        return name, (number(1, size + 1), drawn_far(rnd, symbols, most=12))
    if name in ("strike", "move"):
        first = number(1, size)
        last = number(first, min(size, first + rnd.choice([0, 1, 3, 9]))) if type(first) is int else 1
        return name, (first, last) if name == "strike" else (first, last, number(1, size + 1))
    if name == "reprogram":
        others = [TURN + " ", "", program_text("copy", symbols="abc"), None]
        return name, (rnd.choice(PROGRAMS if rnd.random() > wild else others),)
    return name, ()


class EditsTest(unittest.TestCase):
    def test_the_example_of_the_document(self):
        page = Page(Program(TURN))
        numbers = [page.put(1, (("ab", 1),)), page.put(3, (("a", 2),))]
        self.assertIsNone(page.strike(1, 1))
        self.assertEqual([numbers, page.length, page.slices, page.written(0), page.passes, page.identity(1)],
                         [[0, 1], 3, ((0, 1, 1), (1, 0, 1)), ("a", (1, 1)), 3, (0, 1)])

    def test_an_empty_page(self):
        page = Page(Program(LAST))
        self.assertLessEqual({"program", "length", "slices", "outcome", "many", "passes", "turns", "journal"}, set(vars(page)))
        self.assertEqual((page.length, page.slices, page.outcome, page.many, page.passes, page.turns), (0, (), "done", 1, 1, 1))
        self.assertEqual((page.written(0), page.words("<"), page.words(">")), (("y", "<"), ((1, "y"),), ()))
        self.assertEqual((page.position("<"), page.position(">"), page.position((0, 0))), (None, None, None))
        self.assertEqual((page.touched("<"), page.touched(">")), (False, False))
        self.assertEqual(Page(main("while at <", "  copy")).outcome, "ever")

    def test_any_sequence_beside_a_plain_row(self):
        refused = {}
        for seed in range(60):
            rnd = random.Random(seed)
            program = Program(rnd.choice(PROGRAMS[:-2] + [Sweeper(seed).program("ab")]))
            page, plain = Page(program), Plain(program)
            for _ in range(25):
                name, given = drawn_edit(rnd, plain)
                kept = copy.deepcopy(given)
                before = state_of(page) if rnd.random() < 0.3 else None
                expected = outcome_of(lambda: plain.do(name, *given))
                self.assertEqual(outcome_of(lambda: getattr(page, name)(*given)), expected)
                self.assertEqual(given, kept)
                if isinstance(expected, tuple):
                    refused[expected[0]] = True
                    if before is not None:
                        self.assertEqual(state_of(page), before)
                plain.compare(self, page)
        self.assertLessEqual(set(KINDS) - {TooMany}, set(refused))

    def test_many_slices(self):
        for seed in range(6):
            rnd = random.Random(seed)
            page, plain = Page(COPY), Plain(COPY)
            for each in (page, plain):
                (each.put if each is page else lambda *given: plain.do("put", *given))(1, (("ab", 60),))
            errors = 0
            for _ in range(60):
                first = rnd.randint(1, 118)
                given = (first, first + rnd.randint(0, 2), rnd.choice([rnd.randint(1, first), rnd.randint(first + 3, 121)]))
                expected = outcome_of(lambda: plain.do("move", *given))
                self.assertEqual(outcome_of(lambda: page.move(*given)), expected)
                errors += expected == (TooMany, 40)
                self.assertLessEqual(len(page.slices), 40)
            plain.compare(self, page)
            self.assertGreater(errors, 0)

    def test_slices_are_joined(self):
        page = Page(COPY)
        page.put(1, (("ab", 3),))
        page.move(1, 2, 5)
        self.assertEqual(page.slices, ((0, 2, 3), (0, 0, 1), (0, 4, 5)))
        page.move(3, 4, 1)
        self.assertEqual(page.slices, ((0, 0, 5),))
        page.strike(3, 4)
        self.assertEqual(page.slices, ((0, 0, 1), (0, 4, 5)))
        page.put(3, (("a", 1),))
        self.assertEqual(page.slices, ((0, 0, 1), (1, 0, 0), (0, 4, 5)))
        page.strike(3, 3)
        self.assertEqual(page.slices, ((0, 0, 1), (0, 4, 5)))
        page.put(1, (("ab", 3),))
        page.move(7, 10, 4)
        self.assertEqual(page.slices, ((2, 0, 2), (0, 0, 1), (0, 4, 5), (2, 3, 5)))
        # What follows in another put is not joined, though its index follows.
        page = Page(COPY)
        page.put(1, (("a", 2),))
        page.put(3, (("a", 4),))
        page.strike(3, 4)
        self.assertEqual(page.slices, ((0, 0, 1), (1, 2, 3)))

    def test_a_move_to_where_it_stands(self):
        page = Page(COPY)
        page.put(1, (("ab", 3),))
        for position in (2, 5):
            page.move(2, 4, position)
            self.assertEqual((page.slices, page.journal[-1]), (((0, 0, 5),), f"move 2 4 {position}"))
        page.undo()
        page.undo()
        self.assertEqual(page.length, 6)
        page.undo()
        self.assertEqual(page.length, 0)
        for position in (3, 4):
            page.redo()
            with self.assertRaises(BadPosition) as caught:
                page.move(2, 4, position)
            self.assertEqual(caught.exception.value, position)

    def test_positions_in_their_order(self):
        page = Page(COPY)
        page.put(1, (("ab", 3),))
        kept = state_of(page)
        for given, value in [((0, 0, 0), 0), ((7, 9, 9), 7), ((3, 2, 0), 2), ((3, 7, 0), 7), ((3, 4, 0), 0), ((3, 4, 8), 8),
                             ((3, 5, 4), 4), ((3, 5, 5), 5), ((True, 3, 1), True), ((1, True, 1), True), ((1, 1, True), True),
                             ((None, 3, 1), None), ((1, None, 1), None), ((1, 1, None), None), (((1,), 2, 1), (1,))]:
            for call in [lambda: page.move(*given)] + [lambda: page.strike(*given[:2])] * (value is not given[2]):
                with self.assertRaises(BadPosition) as caught:
                    call()
                self.assertIs(caught.exception.value, value)
        self.assertEqual(state_of(page), kept)
        for value in [0, 8, -1, True, False, "1", *NO_STRINGS]:
            if not isinstance(value, bool) and value in (1, 3):
                continue
            with self.assertRaises(BadPosition) as caught:
                page.put(value, None)
            self.assertIs(caught.exception.value, value)
        page.put(7, (("a", 1),))
        page.put(1, (("a", 1),))
        self.assertEqual((page.length, Page(COPY).put(1, (("a", 1),))), (8, 0))
        with self.assertRaises(BadPosition):
            Page(COPY).strike(1, 1)
        with self.assertRaises(BadPosition):
            Page(COPY).put(2, (("a", 1),))

    def test_bad_far(self):
        page = Page(COPY)
        page.put(1, (("ab", 3),))
        kept = state_of(page)
        for value in [(("abc", 1),), *NO_FARS]:
            other = copy.deepcopy(value)
            with self.assertRaises(BadFar) as caught:
                page.put(1, value)
            self.assertIs(caught.exception.value, value)
            self.assertEqual(value, other)
        self.assertEqual(state_of(page), kept)

    def test_as_long_as_a_far_text_may_be(self):
        whole = (((("a", 10 ** 6),), 10 ** 18),)
        page = Page(COPY)
        page.put(1, (("b", 1),))
        with self.assertRaises(BadFar) as caught:
            page.put(2, whole)
        self.assertIs(caught.exception.value, whole)
        page.strike(1, 1)
        self.assertEqual(page.put(1, whole), 1)
        self.assertEqual((page.length, page.many, page.slices), (10 ** 24, 10 ** 24, ((1, 0, 10 ** 24 - 1),)))
        kept = state_of(page)
        for far in ((("b", 1),), whole):
            with self.assertRaises(BadFar) as caught:
                page.put(10 ** 24 + 1, far)
            self.assertIs(caught.exception.value, far)
        self.assertEqual(state_of(page), kept)
        page.strike(5 * 10 ** 23, 5 * 10 ** 23)
        self.assertEqual(page.put(7, (("b", 1),)), 2)
        self.assertEqual((page.length, page.written(6), page.symbol(10 ** 24)), (10 ** 24, ("b", (2, 0)), "a"))
        self.assertEqual(page.slices, ((1, 0, 5), (2, 0, 0), (1, 6, 5 * 10 ** 23 - 2), (1, 5 * 10 ** 23, 10 ** 24 - 1)))

    def test_far_texts_at_their_limits(self):
        for far in AT_THE_LIMITS:
            page = Page(Program(TURN))
            page.put(1, far)
            self.assertEqual((page.many, page.passes), (far_many(Program(TURN), far), far_passes(Program(TURN), far)))

    def test_twenty_puts(self):
        page = Page(COPY)
        for number in range(20):
            self.assertEqual(page.put(1, (("a", 1),)), number)
        kept = state_of(page)
        with self.assertRaises(TooMany) as caught:
            page.put(1, (("a", 1),))
        self.assertEqual(caught.exception.value, 20)
        with self.assertRaises(BadFar):
            page.put(1, (("c", 1),))
        self.assertEqual(state_of(page), kept)
        # A put whose symbols were taken out stands nevertheless; one that was undone does not.
        page.strike(1, 20)
        with self.assertRaises(TooMany):
            page.put(1, (("a", 1),))
        page.undo()
        page.undo()
        self.assertEqual(page.put(1, (("b", 1),)), 19)
        self.assertEqual((page.symbol(1), page.identity(1)), ("b", (19, 0)))
        with self.assertRaises(TooMany):
            page.put(1, (("b", 1),))

    def test_forty_slices(self):
        page = Page(COPY)
        page.put(1, (("ab", 100),))
        for at in range(39):
            page.strike(2 * at + 2, 2 * at + 2)
        self.assertEqual(len(page.slices), 40)
        kept = state_of(page)
        for call in (lambda: page.strike(100, 100), lambda: page.put(100, (("a", 1),)), lambda: page.put(2, (("a", 1),)),
                     lambda: page.move(1, 1, 100), lambda: page.move(100, 110, 120)):
            with self.assertRaises(TooMany) as caught:
                call()
            self.assertEqual(caught.exception.value, 40)
            self.assertEqual(state_of(page), kept)
        page.strike(1, 1)
        self.assertEqual(len(page.slices), 39)
        page.put(1, (("a", 1),))
        self.assertEqual(len(page.slices), 40)

    def test_twenty_puts_are_asked_before_forty_slices(self):
        page = Page(COPY)
        for number in range(20):
            page.put(number + 1, (("ab" * 10, 1),) if number == 0 else (("ab", 1),))
        while len(page.slices) < 40:
            page.move(1, 1, 5 + 3 * (len(page.slices) % 15))
        with self.assertRaises(TooMany) as caught:
            page.put(3, (("a", 1),))
        self.assertEqual(caught.exception.value, 20)

    def test_numbers_that_were_undone_are_given_again(self):
        page = Page(COPY)
        self.assertEqual([page.put(1, (("a", 1),)), page.put(1, (("b", 2),))], [0, 1])
        page.undo()
        self.assertEqual(page.put(2, (("bb", 2),)), 1)
        self.assertEqual((page.slices, page.position((1, 3))), (((0, 0, 0), (1, 0, 3)), 5))
        page.undo()
        page.undo()
        self.assertEqual(page.put(1, (("b", 3),)), 0)
        self.assertEqual(page.slices, ((0, 0, 2),))

    def test_undo_and_redo(self):
        page = Page(Program(TURN))
        for name, error in (("undo", NothingToUndo), ("redo", NothingToRedo)):
            with self.assertRaises(error) as caught:
                getattr(page, name)()
            self.assertIsNone(caught.exception.value)
        self.assertEqual(len(page.journal), 1)
        page.put(1, (("ab", 2),))
        page.reprogram(TWICE)
        self.assertEqual((page.program.text, page.passes), (TWICE, 2))
        self.assertIsNone(page.undo())
        self.assertEqual((page.program.text, page.passes), (TURN, 4))
        self.assertIsNone(page.redo())
        self.assertEqual((page.program.text, page.passes), (TWICE, 2))
        with self.assertRaises(NothingToRedo):
            page.redo()
        page.undo()
        page.strike(1, 1)
        with self.assertRaises(NothingToRedo):
            page.redo()
        page.undo()
        page.undo()
        with self.assertRaises(NothingToUndo):
            page.undo()
        page.redo()
        page.redo()
        self.assertEqual((page.length, page.program.text), (3, TURN))
        self.assertEqual(page.journal[1:], (
            "put 1 ab*2", "reprogram " + "".join("|" + line for line in TWICE.split("\n")), "undo", "redo", "undo", "strike 1 1",
            "undo", "undo", "redo", "redo"))

    def test_reprogram(self):
        page = Page(COPY)
        page.put(1, (("ab", 2),))
        kept = state_of(page)
        for value in ["", TURN + "\n", "symbols ab", *NO_STRINGS]:
            with self.assertRaises(BadProgram) as caught:
                page.reprogram(value)
            expected = outcome_of(lambda: Program(value))[1]
            self.assertEqual(caught.exception.value, expected)
        for other in (main("copy", symbols="abc"), main("copy", symbols="ac")):
            with self.assertRaises(OtherSymbols) as caught:
                page.reprogram(other.text)
            self.assertEqual(caught.exception.value, other)
        self.assertEqual(state_of(page), kept)
        self.assertIsNone(page.reprogram(COPY.text))
        self.assertEqual((page.program, len(page.journal)), (COPY, 3))

    def test_names_of_the_parameters(self):
        page = Page(program=COPY)
        self.assertEqual(page.put(far=(("ab", 2),), position=1), 0)
        page.strike(last=1, first=1)
        page.move(position=1, last=3, first=2)
        page.reprogram(text=TURN)
        self.assertEqual((page.symbol(position=1), page.identity(position=1), page.position(identity=(0, 2))), ("a", (0, 2), 1))
        self.assertEqual((page.written(index=0), page.words(identity=(0, 1)), page.touched(identity="<")),
                         (("b", (0, 1)), ((1, "b"),), False))
        self.assertEqual(page.tried(keep=1, look=lambda held: held.length), 3)


class QuestionsTest(unittest.TestCase):
    def page(self):
        page = Page(Program(TURN))
        page.put(1, (("ab", 2),))
        page.strike(2, 2)
        return page

    def test_bad_position(self):
        page = self.page()
        for value in [0, 4, -1, True, False, "<", "1", (0, 0), *NO_STRINGS]:
            if not isinstance(value, bool) and value in (1, 3):
                continue
            for call in (page.symbol, page.identity):
                with self.assertRaises(BadPosition) as caught:
                    call(value)
                self.assertIs(caught.exception.value, value)
        self.assertEqual([page.symbol(1) + page.symbol(3), page.identity(1), page.identity(3)], ["ab", (0, 0), (0, 3)])

    def test_no_letter(self):
        page = self.page()
        for value in [3, -1, True, False, 10 ** 30, "0", None, (0,), [0], {}]:
            with self.assertRaises(NoLetter) as caught:
                page.written(value)
            self.assertIs(caught.exception.value, value)
        self.assertEqual([page.written(0), page.written(2)], [("b", (0, 3)), ("a", (0, 0))])

    def test_identities(self):
        page = self.page()
        for value in [(0, 1), (0, 4), (1, 0), (0, -1), (-1, 0), (True, 0), (False, 0), (0, False), (0, True), (0,), (0, 0, 0), [0, 0],
                      "", "<>", "a", (0, "0"), ("<",), (0, None), *NO_STRINGS]:
            kept = copy.deepcopy(value)
            self.assertIsNone(page.position(value))
            for call in (page.words, page.touched):
                with self.assertRaises(NoIdentity) as caught:
                    call(value)
                self.assertIs(caught.exception.value, value)
            self.assertEqual(value, kept)
        self.assertEqual([page.position(identity) for identity in ("<", (0, 0), (0, 2), (0, 3), ">")], [None, 1, 2, 3, None])
        page.undo()
        self.assertEqual(page.position((0, 1)), 2)

    def test_at_the_marks(self):
        page = Page(main("write x", "while not at >", "  right", "write y", "left"))
        page.put(1, (("ab", 2),))
        self.assertEqual([page.written(0), page.written(1)], [("x", "<"), ("y", ">")])
        self.assertEqual((page.words("<"), page.words(">"), page.words((0, 0))), (((1, "x"),), ((1, "y"),), ()))

    def test_marks_have_no_position(self):
        # The marks may be asked for their words, but they are no symbols, whatever edits come.
        page = Page(main("write x", "while not at >", "  right", "write y", "left"))

        def check(many):
            self.assertEqual((page.position("<"), page.position(">")), (None, None))
            self.assertEqual([page.position(page.identity(at)) for at in range(1, many + 1)], list(range(1, many + 1)))
            self.assertEqual([page.written(0), page.written(1)], [("x", "<"), ("y", ">")])
            self.assertEqual((page.words("<"), page.words(">")), (((1, "x"),), ((1, "y"),)))
            self.assertEqual((page.touched("<"), page.touched(">")), (False, False))

        check(0)
        self.assertEqual([page.put(1, (("ab", 2),)), page.position((0, 3))], [0, 4])
        check(4)
        page.move(1, 1, 5)
        self.assertEqual([page.position((0, index)) for index in range(5)], [4, 1, 2, 3, None])
        check(4)
        page.strike(1, 4)
        check(0)
        page.undo()
        check(4)
        with page.trial():
            page.strike(2, 3)
            check(2)
        check(4)
        self.assertEqual([page.copy().position(mark) for mark in ("<", ">")], [None, None])
        page.reprogram(program_text("write z", "while not at >", "  right", "write y", "write y", "left"))
        self.assertEqual((page.position("<"), page.position(">")), (None, None))
        self.assertEqual((page.words("<"), page.words(">")), (((1, "z"),), ((1, "yy"),)))
        self.assertEqual((page.touched("<"), page.touched(">")), (True, True))

    def test_long_pages_beside_far_texts(self):
        # The text of the page is also that of one far text.
        for text in (TURN, TWICE, NEXT, MANY_PREFIXES):
            program = Program(text)
            page = Page(program)
            page.put(1, (("ab", 10 ** 15), ("b", 5)))
            page.put(2 * 10 ** 15 + 1, (((("aab", 10 ** 6),), 10 ** 6),))
            page.strike(1, 10 ** 15)
            page.move(10 ** 15 + 1, 10 ** 15 + 3 * 10 ** 12, 1)
            far = (((("aab", 10 ** 6),), 10 ** 6), ("ab", 5 * 10 ** 14), ("b", 5))
            self.assertEqual((page.length, page.many, page.passes), (3 * 10 ** 12 + 10 ** 15 + 5, far_many(program, far), far_passes(program, far)))
            self.assertEqual(page.turns, far_passes(program, far, turns=True))
            for position in (1, 2, 3 * 10 ** 12, 3 * 10 ** 12 + 1, page.length):
                self.assertEqual(page.words(page.identity(position)), far_words(program, far, position))
            for index in (0, page.many // 3, page.many - 1):
                letter, position = far_written(program, far, index)
                identity = {0: "<", page.length + 1: ">"}.get(position) or page.identity(position)
                self.assertEqual(page.written(index), (letter, identity))
                self.assertEqual(page.position(identity), position if 1 <= position <= page.length else None)
            self.assertEqual((page.identity(1), page.identity(page.length)), ((1, 0), (0, 2 * 10 ** 15 + 4)))
            self.assertEqual(page.position((0, 10 ** 15)), 3 * 10 ** 12 + 1)

    def test_touched(self):
        page = Page(Program(NEXT))
        page.put(1, (("ba", 2),))
        self.assertTrue(page.touched((0, 0)) and page.touched((0, 1)))
        self.assertFalse(page.touched("<") or page.touched(">"))
        # The second symbol was followed by a b, and now by an a.
        page.strike(3, 3)
        self.assertEqual([page.touched((0, index)) for index in (0, 1, 3)], [False, True, False])
        page.undo()
        self.assertEqual([page.touched((0, index)) for index in range(4)], [False, True, True, False])
        page.redo()
        self.assertEqual([page.touched((0, index)) for index in (0, 1, 3)], [False, True, False])
        page.reprogram(COPY.text)
        self.assertEqual([page.touched((0, index)) for index in (0, 1, 3)], [True, True, True])
        page.move(1, 2, 4)
        self.assertEqual([page.touched((0, index)) for index in (0, 1, 3)], [False, False, False])
        page.reprogram(TURN)
        # The numbers of the passes do not count, but the words do.
        self.assertEqual([page.touched((0, index)) for index in (0, 1, 3)], [False, False, False])
        page.reprogram(TWICE)
        self.assertEqual([page.touched((0, index)) for index in (0, 1, 3)], [True, True, True])
        page.move(1, 1, 1)
        self.assertFalse(page.touched((0, 3)) or page.touched("<"))

    def test_touched_where_words_come_apart(self):
        # aa in one pass is not a in two.
        page = Page(Program(TWICE))
        page.put(1, (("a", 1),))
        self.assertEqual(page.words((0, 0)), ((1, "aa"),))
        page.put(2, (("b", 1),))
        self.assertEqual(page.words((0, 0)), ((1, "a"), (2, "a")))
        self.assertTrue(page.touched((0, 0)))

    def test_a_number_that_was_given_again_is_another_symbol(self):
        page = Page(COPY)
        page.put(1, (("a", 1),))
        page.undo()
        page.put(1, (("a", 1),))
        self.assertTrue(page.touched((0, 0)))
        page.move(1, 1, 2)
        self.assertFalse(page.touched((0, 0)))


class TrialsTest(unittest.TestCase):
    def page(self):
        page = Page(Program(TURN))
        page.put(1, (("ab", 2),))
        page.put(2, (("b", 1),))
        page.undo()
        return page

    def do_much(self, page):
        page.redo()
        page.put(1, (("a", 3),))
        page.strike(2, 3)
        page.reprogram(TWICE)
        page.undo()
        page.undo()

    def test_not_kept(self):
        page = self.page()
        kept = state_of(page)
        with page.trial() as held:
            self.assertIs(held, page)
            self.do_much(page)
            self.assertNotEqual(state_of(page), kept)
        self.assertEqual(state_of(page), kept)
        page.redo()
        self.assertEqual(page.length, 5)
        with page.trial():
            page.undo()
            page.undo()
            self.assertEqual(page.length, 0)
        self.assertEqual(page.length, 5)
        with page.trial():
            pass
        self.assertEqual(page.length, 5)

    def test_each_thing_that_a_program_changes(self):
        page = self.page()
        kept = state_of(page)
        for text in (NEVER.text, TWICE, LAST, program_text("stop")):
            with page.trial():
                page.reprogram(text)
                self.assertNotEqual((page.outcome, page.many, page.passes, page.turns), tuple(kept[3:7]))
            self.assertEqual(state_of(page), kept)

    def test_kept(self):
        page, other = self.page(), self.page()
        with page.trial() as held:
            self.assertIsNone(held.keep())
            self.do_much(page)
        self.do_much(other)
        self.assertEqual(state_of(page), state_of(other))
        with page.trial() as held:
            held.undo()
            page.keep()
            page.keep()
        other.undo()
        self.assertEqual(state_of(page), state_of(other))

    def test_left_by_an_error(self):
        page = self.page()
        kept = state_of(page)
        for error in (ValueError, KeyError, NoLetter):
            with self.assertRaises(error):
                with page.trial() as held:
                    self.do_much(page)
                    held.keep()
                    raise error(1)
            self.assertEqual(state_of(page), kept)
            with self.assertRaises(NoTrial):
                page.keep()
        with self.assertRaises(BadPosition):
            with page.trial() as held:
                held.strike(1, 1)
                held.keep()
                held.strike(9, 9)
        self.assertEqual(state_of(page), kept)
        # An error that does not leave the block does not matter.
        with page.trial() as held:
            held.strike(1, 1)
            with self.assertRaises(BadPosition):
                held.strike(9, 9)
            held.keep()
        self.assertEqual(page.length, 3)

    def test_left_by_return_and_break(self):
        page = self.page()

        def look(keep):
            for _ in range(3):
                with page.trial() as held:
                    held.strike(1, 1)
                    if keep:
                        held.keep()
                        return held.length
                    break
            return page.length

        self.assertEqual((look(False), page.length, look(True), page.length), (4, 4, 3, 3))

    def test_nested(self):
        for outer in (False, True):
            for inner in (False, True):
                page = self.page()
                kept = state_of(page)
                with page.trial():
                    page.strike(1, 1)
                    between = state_of(page)
                    with page.trial():
                        page.strike(1, 1)
                        if inner:
                            page.keep()
                    if not inner:
                        self.assertEqual(state_of(page), between)
                    self.assertEqual(page.length, 2 if inner else 3)
                    if outer:
                        page.keep()
                self.assertEqual(page.length, (2 if inner else 3) if outer else 4)
                if not outer:
                    self.assertEqual(state_of(page), kept)
                with self.assertRaises(NoTrial):
                    page.keep()

    def test_keep_counts_for_the_innermost_one(self):
        page = self.page()
        with page.trial():
            page.keep()
            with page.trial():
                page.strike(1, 1)
            page.strike(1, 2)
        self.assertEqual(page.length, 2)
        with page.trial():
            with page.trial():
                page.strike(1, 1)
                page.keep()
            self.assertEqual(page.length, 1)
        self.assertEqual(page.length, 2)

    def test_an_error_in_an_inner_one(self):
        page = self.page()
        with page.trial() as held:
            held.strike(1, 1)
            try:
                with page.trial():
                    held.keep()
                    held.strike(1, 1)
                    raise KeyError
            except KeyError:
                pass
            self.assertEqual(held.length, 3)
            held.keep()
        self.assertEqual(page.length, 3)

    def test_keep_outside(self):
        page = self.page()
        with self.assertRaises(NoTrial) as caught:
            page.keep()
        self.assertIsNone(caught.exception.value)
        with page.trial():
            other = page.copy()
            with self.assertRaises(NoTrial):
                other.keep()
        page.trial()
        with self.assertRaises(NoTrial):
            page.keep()

    def test_the_page_is_as_when_the_block_began(self):
        page = self.page()
        trial = page.trial()
        page.strike(1, 1)
        with trial as held:
            held.strike(1, 1)
        self.assertEqual(page.length, 3)
        with trial as held:
            held.strike(1, 1)
            held.keep()
        with trial as held:
            held.strike(1, 1)
        self.assertEqual(page.length, 2)

    def test_numbers_and_journal(self):
        page = self.page()
        journal = page.journal
        with page.trial():
            self.assertEqual(page.put(1, (("b", 1),)), 1)
            self.assertEqual(page.journal, journal + ("put 1 b*1",))
        self.assertEqual((page.journal, page.put(1, (("a", 1),))), (journal, 1))

    def test_tried(self):
        page = self.page()
        kept = state_of(page)

        def look(held):
            self.assertIs(held, page)
            held.strike(1, 1)
            return held.length, held.written(0)

        for keep in [False, None, 1, 0, "yes", "", (True,), [True], {}, 2]:
            self.assertEqual(page.tried(look, keep=keep), (3, ("b", (0, 3))))
            self.assertEqual(state_of(page), kept)
        self.assertEqual(page.tried(look), (3, ("b", (0, 3))))
        self.assertEqual(state_of(page), kept)
        self.assertEqual(page.tried(look, keep=True), (3, ("b", (0, 3))))
        self.assertEqual(page.length, 3)
        self.assertIsNone(page.tried(lambda held: held.keep()))
        self.assertEqual(page.tried(lambda held: [held.strike(1, 1), held.keep(), held.length], keep=1), [None, None, 2])
        self.assertEqual(page.length, 2)

    def test_tried_left_by_an_error(self):
        page = self.page()
        kept = state_of(page)

        def look(held):
            held.strike(1, 2)
            held.keep()
            return held.written(10)

        for keep in (True, False):
            with self.assertRaises(NoLetter):
                page.tried(look, keep=keep)
            self.assertEqual(state_of(page), kept)
            with self.assertRaises(NoTrial):
                page.keep()

    def test_tried_within_tried(self):
        page = self.page()
        self.assertEqual(page.tried(lambda held: held.tried(lambda inner: inner.strike(1, 2), keep=True) or held.length), 2)
        self.assertEqual(page.length, 4)
        self.assertEqual(page.tried(lambda held: held.tried(lambda inner: inner.strike(1, 2)) or held.length, keep=True), 4)

    def test_touched_after_trials(self):
        page = Page(Program(NEXT))
        page.put(1, (("ba", 2),))
        page.strike(3, 3)
        before = [page.touched(identity) for identity in ("<", (0, 0), (0, 1), (0, 3), ">")]
        self.assertEqual(before, [False, False, True, False, False])
        with page.trial():
            page.strike(2, 3)
            self.assertEqual([page.touched((0, 0)), page.touched("<")], [True, False])
        self.assertEqual([page.touched(identity) for identity in ("<", (0, 0), (0, 1), (0, 3), ">")], before)
        with page.trial():
            page.strike(2, 3)
            page.keep()
        self.assertEqual([page.touched((0, 0)), page.touched("<")], [True, False])
        fresh = Page(Program(NEXT))
        with fresh.trial():
            fresh.put(1, (("a", 1),))
        self.assertFalse(fresh.touched("<"))

    def test_any_sequence_with_trials(self):
        for seed in range(25):
            rnd = random.Random(seed)
            program = Program(rnd.choice([TURN, TWICE, NEXT, Sweeper(seed).program("ab")]))
            page, plain = Page(program), Plain(program)
            for _ in range(6):
                plain = self.in_trial(rnd, page, plain, 0)
                plain.compare(self, page)

    def in_trial(self, rnd, page, plain, depth):
        """Some edits, perhaps in a trial; returns what the page should be like then."""
        inner = copy.deepcopy(plain)
        is_kept = rnd.random() < 0.4
        try:
            with page.trial():
                for _ in range(rnd.randint(1, 4)):
                    if depth < 3 and rnd.random() < 0.3:
                        inner = self.in_trial(rnd, page, inner, depth + 1)
                    name, given = drawn_edit(rnd, inner)
                    expected = outcome_of(lambda: inner.do(name, *given))
                    self.assertEqual(outcome_of(lambda: getattr(page, name)(*given)), expected)
                    if rnd.random() < 0.2:
                        inner.compare(self, page.copy())
                inner.compare(self, page)
                if is_kept:
                    page.keep()
                if rnd.random() < 0.2:
                    is_kept = False
                    raise KeyError
        except KeyError:
            pass
        return inner if is_kept else plain


class CopiesTest(unittest.TestCase):
    def test_copies_are_independent(self):
        page = Page(Program(TURN))
        page.put(1, (("ab", 2),))
        page.strike(1, 1)
        page.undo()
        other = page.copy()
        self.assertEqual(state_of(page), state_of(other))
        self.assertTrue(page == other and page is not other)
        kept = state_of(page)
        other.redo()
        other.reprogram(TWICE)
        self.assertEqual(state_of(page), kept)
        kept = state_of(other)
        page.undo()
        self.assertEqual(state_of(other), kept)

    def test_copies_within_a_trial(self):
        page = Page(Program(TURN))
        page.put(1, (("ab", 2),))
        with page.trial():
            page.strike(1, 2)
            other = page.copy()
            kept = state_of(other)
            with other.trial():
                other.undo()
                other.keep()
            other.redo()
            self.assertEqual(page.length, 2)
        self.assertEqual((page.length, other.length), (4, 2))
        self.assertEqual(other.journal, kept[7] + ("undo", "redo"))
        other.undo()
        self.assertEqual((page == other, len(page.journal)), (True, 2))

    def test_equality(self):
        def page_of(*fars, text=TURN):
            page = Page(Program(text))
            for far in fars:
                page.put(page.length + 1, far)
            return page

        one = page_of((("ab", 2),))
        self.assertTrue(one == page_of((("ab", 2),)))
        self.assertFalse(one != page_of((("ab", 2),)))
        for other in [page_of((("abab", 1),)), page_of((("ab", 1),), (("ab", 1),)), page_of(), page_of((("ab", 2),), text=TWICE),
                      Program(TURN), TURN, None, one.slices, 0]:
            self.assertFalse(one == other)
            self.assertTrue(one != other)
        # The numbers of the puts do not matter, nor how the page came to be like that.
        longer = page_of((("b", 3),), (("ab", 2),))
        longer.strike(1, 3)
        self.assertEqual((longer.slices, longer == one), (((1, 0, 3),), True))
        longer.strike(1, 1)
        one.strike(4, 4)
        self.assertFalse(longer == one)
        self.assertEqual(page_of(), Page(Program(TURN)))

    def test_pages_of_random_programs(self):
        for seed in range(30):
            program = Program(Maker(seed).program())
            page = Page(program)
            rnd = random.Random(seed)
            far = drawn_far(rnd, program.symbols, most=40)
            page.put(1, far)
            plain = Plain(program)
            plain.do("put", 1, far)
            plain.compare(self, page)
            self.assertEqual(page.slices, slices_of(plain.row()))
