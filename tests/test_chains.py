"""Section 5: chains."""

import copy
import unittest

from fewgoings.chains import Chain
from fewgoings.errors import BadText, OtherSymbols
from fewgoings.programs import Program
from fewgoings.runs import run
from tests.machines import COPY, main
from tests.randoms import Maker
from tests.samples import LAST, LOOP_AT_B, NO_STRINGS, TURN, TWICE

MARKS = main("write l", "while not at >", "  right", "write r", symbols="abc")


class ChainTest(unittest.TestCase):
    def test_the_example_of_the_document(self):
        turn = Program(TURN)
        self.assertEqual(run(Chain(turn, turn), "ab"), ("done", (("a", 1, 2), ("b", 2, 1))))

    def test_properties(self):
        one, other = main("copy", "write c"), main("right", symbols="abcd")
        chain = Chain(one, other)
        self.assertIs(chain.one, one)
        self.assertIs(chain.other, other)
        self.assertEqual(chain.symbols, "ab")
        self.assertLessEqual({"one", "other", "symbols"}, set(vars(chain)))
        chain = Chain(other=other, one=one)
        self.assertIs(chain.one, one)

    def test_other_symbols_with_the_second_program(self):
        for one, other in [
            (main("write x"), COPY),
            (main("copy", symbols="abc"), COPY),
            (main("copy", "write x"), main("copy", symbols="abc")),
            (main("stop", "write x"), COPY),
            (main("right", head=["part p", "  write x"]), COPY),
            (Program(LAST), Program(TURN)),
        ]:
            with self.assertRaises(OtherSymbols) as caught:
                Chain(one, other)
            self.assertIs(caught.exception.value, other)

    def test_the_letters_count_and_not_the_symbols(self):
        Chain(main("write a", symbols="xyz"), COPY)
        Chain(main("right", symbols="xyz"), COPY)
        Chain(Program(LAST), main("copy", symbols="xy"))
        Chain(main("copy", "write d"), main("right", symbols="abd"))

    def test_rows_tell_letter_position_and_position_in_the_middle_text(self):
        # The middle text of "ab" is "baab": b was written at 2, a at 1, and again a, b.
        one = main("while not at >", "  right", "while not at <", "  copy", "  left", "while not at >", "  copy",
                   "  right")
        self.assertEqual(run(one, "ab")[1], (("b", 2), ("a", 1), ("a", 1), ("b", 2)))
        self.assertEqual(run(Chain(one, COPY), "ab"), ("done", (("b", 2, 1), ("a", 1, 2), ("a", 1, 3), ("b", 2, 4))))
        self.assertEqual(run(Chain(one, Program(TURN)), "ab"),
                         ("done", (("b", 2, 4), ("a", 1, 3), ("a", 1, 2), ("b", 2, 1))))

    def test_letters_at_the_marks_of_the_middle_text(self):
        one = main("right", "right", "copy", "copy")
        self.assertEqual(run(Chain(one, MARKS), "abb"), ("done", (("l", 0, 0), ("r", 4, 3))))

    def test_letters_that_were_written_at_the_marks_of_the_text(self):
        one = main("write a", "while not at >", "  right", "write b")
        self.assertEqual(run(Chain(one, COPY), "aaa"), ("done", (("a", 0, 1), ("b", 4, 2))))
        self.assertEqual(run(Chain(one, MARKS), ""), ("done", (("l", 0, 0), ("r", 1, 3))))

    def test_an_empty_middle_text(self):
        chain = Chain(main("right"), MARKS)
        self.assertEqual(run(chain, "abab"), ("done", (("l", 0, 0), ("r", 5, 1))))
        self.assertEqual(run(chain, ""), ("done", (("l", 0, 0), ("r", 1, 1))))
        self.assertEqual(run(Chain(COPY, COPY), ""), ("done", ()))

    def test_a_middle_text_longer_than_a_hundred(self):
        text = "ab" * 50
        result = run(Chain(Program(TWICE), Program(TURN)), text)
        expected = tuple((text[(at - 1) % 100], (at - 1) % 100 + 1, at) for at in range(200, 0, -1))
        self.assertEqual(result, ("done", expected))
        eight = main("while not at >", *["  copy"] * 8, "  right")
        self.assertEqual(len(run(Chain(eight, eight), text)[1]), 6400)

    def test_the_first_run_does_not_end(self):
        chain = Chain(Program(LOOP_AT_B), main("copy", symbols="xy"))
        self.assertEqual(run(chain, "b"), ("ever", 0))
        self.assertEqual(run(chain, "a"), ("done", ()))

    def test_the_second_run_does_not_end(self):
        chain = Chain(COPY, Program(LOOP_AT_B))
        self.assertEqual(run(chain, "ba"), ("ever", 1))
        self.assertEqual(run(chain, "ab"), ("done", ()))
        self.assertEqual(run(Chain(main("right"), main("while at <", "  copy")), "b"), ("ever", 1))

    def test_neither_run_ends(self):
        loop = main("while at <", "  write a")
        self.assertEqual(run(Chain(loop, loop), "b"), ("ever", 0))

    def test_bad_text(self):
        chain = Chain(Program(LAST), main("copy", symbols="xy"))
        for value in [*NO_STRINGS, "x", "abx", "ab ", "<"]:
            kept = copy.deepcopy(value)
            with self.assertRaises(BadText) as caught:
                run(chain, value)
            self.assertIs(caught.exception.value, value)
            self.assertEqual(value, kept)

    def test_equal_if_both_programs_are(self):
        turn, twice = Program(TURN), Program(TWICE)
        self.assertEqual(Chain(turn, twice), Chain(Program(TURN), Program(TWICE)))
        self.assertFalse(Chain(turn, twice) != Chain(turn, twice))
        self.assertNotEqual(Chain(turn, twice), Chain(twice, turn))
        self.assertNotEqual(Chain(turn, twice), Chain(turn, turn))
        self.assertNotEqual(Chain(turn, twice), Chain(twice, twice))

    def test_equal_nothing_else(self):
        turn = Program(TURN)
        chain = Chain(turn, turn)
        for value in [turn, TURN, (turn, turn), [turn, turn], Chain, *NO_STRINGS]:
            self.assertFalse(chain == value)
            self.assertFalse(value == chain)
            self.assertTrue(chain != value)

    def test_equal_calls_give_equal_results_and_change_nothing(self):
        turn = Program(TURN)
        chain = Chain(turn, turn)
        self.assertEqual(run(machine=chain, text="abb"), run(chain, "abb"))
        self.assertEqual((chain.one.text, chain.other.text), (TURN, TURN))
        self.assertEqual(run(chain, "abb"), run(Chain(turn, turn), "abb"))

    def test_kinds_of_what_is_returned(self):
        result = run(Chain(COPY, COPY), "ab")
        for value in (result, result[1], *result[1], run(Chain(COPY, Program(LOOP_AT_B)), "b")):
            self.assertIs(type(value), tuple)
        self.assertEqual([type(value) for value in result[1][0]], [str, int, int])

    def test_random_chains_row_by_row(self):
        ended = 0
        for seed in range(400):
            maker = Maker(seed)
            one, other = Program(maker.program()), Program(maker.program())
            if not set(one.letters) <= set(other.symbols):
                continue
            text = maker.text(one.symbols, 20)
            first = run(one, text)
            if first[0] == "ever":
                self.assertEqual(run(Chain(one, other), text), ("ever", 0))
                continue
            second = run(other, "".join(letter for letter, _ in first[1]))
            if second[0] == "ever":
                self.assertEqual(run(Chain(one, other), text), ("ever", 1))
                continue
            ended += 1
            places = {0: 0, len(first[1]) + 1: len(text) + 1}
            places |= {at: position for at, (_, position) in enumerate(first[1], start=1)}
            expected = tuple((letter, places[middle], middle) for letter, middle in second[1])
            self.assertEqual(run(Chain(one, other), text), ("done", expected))
        self.assertGreater(ended, 20)
