"""Section 14: far texts."""

import copy
import itertools
import random
import unittest

from fewgoings.chains import Chain
from fewgoings.errors import BadFar, BadPosition, BadWriter, NoLetter, OtherSymbols, TooMany
from fewgoings.fars import far_length, far_many, far_outcome, far_passes, far_word, far_words, far_written
from fewgoings.passes import passes
from fewgoings.programs import Program
from fewgoings.runs import run
from fewgoings.writers import writer, written
from tests.fartexts import AT_THE_LIMITS, NO_FARS, deep, drawn_far, text_of
from tests.machines import COPY, NEVER, chain_of, main
from tests.randoms import Maker, Sweeper
from tests.samples import (
    FORTY_STATES, LAST, LOOP_AT_B, MANY_PREFIXES, NEXT, NO_STRINGS, ONE_LEFT_STATE_MORE, ONE_PREFIX_MORE, ONE_SUFFIX_MORE,
    SIXTY_PREFIXES, SIXTY_SUFFIXES, THREE_BACK, TURN, TWICE,
)
from tests.test_writers import random_writer

# Never ends where the number of symbols is even.
EVEN_NEVER = main("while not at >", "  add n 1", "  right", "while n = 1", "  write x", head=["cell n 1"])


def machines_of(seeds):
    """Random programs, and random chains of them as far as they fit."""
    for seed in seeds:
        yield Program(Sweeper(seed).program())
        yield Program(Maker(seed).program())
        maker = Sweeper(seed)
        texts = [(maker.program(letters="ab"), maker.program("ab")), (Maker(seed).program(), Maker(seed + 1).program())]
        for one, other in texts:
            try:
                yield Chain(Program(one), Program(other))
            except OtherSymbols:
                continue


class FarTest(unittest.TestCase):
    def check(self, machine, far):
        """Compares all functions with the plain ones on the text written out."""
        text = text_of(far)
        self.assertEqual(far_length(far), len(text))
        result = run(machine, text)
        output = [row[:2] for row in result[1]] if result[0] == "done" else []
        self.assertEqual(far_outcome(machine, far), result[0])
        self.assertEqual(far_many(machine, far), len(output))
        found = passes(machine, text)
        self.assertEqual(far_passes(machine, far), len(found))
        self.assertEqual(far_passes(machine, far, turns=True), len(passes(machine, text, turns=True)))
        if isinstance(machine, Program):
            for index in {0, 1, len(output) // 2, len(output) - 1} & set(range(len(output))):
                self.assertEqual(far_written(machine, far, index), output[index])
            for position in range(0, len(text) + 2, 1 + len(text) // 9):
                rows = tuple((number, dict(row)[position]) for number, row in enumerate(found, start=1) if position in dict(row))
                self.assertEqual(far_words(machine, far, position), rows)
        return result[0], len(found)

    def test_the_example_of_the_document(self):
        turn, far = Program(TURN), (("ab", 10 ** 18),)
        self.assertEqual(
            [far_length(far), far_written(turn, far, 0), far_passes(turn, far), far_words(turn, far, 1)],
            [2000000000000000000, ("b", 2000000000000000000), 2000000000000000000, ((2000000000000000000, "a"),)])

    def test_samples(self):
        rnd = random.Random(1)
        machines = [Program(text) for text in (
            TURN, TWICE, LAST, LOOP_AT_B, NEXT, THREE_BACK, FORTY_STATES, SIXTY_SUFFIXES, ONE_SUFFIX_MORE, MANY_PREFIXES,
            ONE_LEFT_STATE_MORE)]
        machines += [chain_of(SIXTY_PREFIXES), chain_of(ONE_PREFIX_MORE), COPY, NEVER, EVEN_NEVER]
        for machine in machines:
            for _ in range(6):
                self.check(machine, drawn_far(rnd, machine.symbols))

    def test_random_machines(self):
        rnd = random.Random(2)
        kinds = {"done": 0, "ever": 0}
        many = {}
        for machine in machines_of(range(120)):
            for _ in range(2):
                outcome, found = self.check(machine, drawn_far(rnd, machine.symbols))
                kinds[outcome] += 1
                many[min(found, 9)] = many.get(min(found, 9), 0) + 1
        self.assertGreater(min(kinds.values()), 10)
        self.assertLessEqual({0, 1, 2, 3, 4, 9}, set(many))

    def test_every_index_and_position(self):
        rnd = random.Random(3)
        for seed in range(12):
            program = Program(Sweeper(seed).program())
            far = drawn_far(rnd, program.symbols, most=40)
            text = text_of(far)
            result = run(program, text)
            output = result[1] if result[0] == "done" else ()
            self.assertEqual([far_written(program, far, index) for index in range(len(output))], list(output))
            rows = [far_words(program, far, position) for position in range(len(text) + 2)]
            found = {}
            for position, words in enumerate(rows):
                self.assertEqual([number for number, _ in words], sorted({number for number, _ in words}))
                for number, word in words:
                    found.setdefault(number, []).append((position, word))
            self.assertEqual(tuple(tuple(found[number]) for number in sorted(found)), passes(program, text))

    def test_the_same_text_in_other_forms(self):
        forms = [(("ab", 6),), (("abab", 3),), (("ab" * 6, 1),), ((((("ab", 2),), 3)),), (("ab", 5), ("a", 1), ("b", 1)),
                 (("a", 1), ("ba", 5), ("b", 1)), (((("ab", 1), ("abab", 1)), 2),)]
        for machine in [Program(text) for text in (TURN, TWICE, NEXT, MANY_PREFIXES)] + [chain_of(ONE_PREFIX_MORE)]:
            found = {(far_length(far), far_outcome(machine, far), far_many(machine, far), far_passes(machine, far),
                      far_passes(machine, far, turns=True)) for far in forms}
            self.assertEqual(len(found), 1)

    def test_closed_forms(self):
        turn, twice, last = Program(TURN), Program(TWICE), Program(LAST)
        many = 10 ** 18
        for far in [(("ab", many),), (((("a", 1), ("b", 3)), many), ("a", 7)), (((("ab" * 10, 5 * 10 ** 4),), many),),
                    (((("a", 10 ** 12),), 10 ** 12 - 1), ("b", 10 ** 12))]:
            size = far_length(far)
            self.assertEqual((far_many(turn, far), far_passes(turn, far), far_passes(turn, far, turns=True)), (size, size, 2))
            self.assertEqual((far_many(twice, far), far_passes(twice, far), far_passes(twice, far, turns=True)), (2 * size, 2, 3))
            self.assertEqual((far_many(last, far), far_passes(last, far)), (1, 1))
            self.assertEqual(far_words(last, far, 0), ((1, "x" if far[-1][0] == "a" else "y"),))
            self.assertEqual((far_outcome(NEVER, far), far_many(NEVER, far), far_passes(NEVER, far)), ("ever", 0, 0))
            self.assertEqual(far_words(NEVER, far, 5), ())
            chain = Chain(turn, turn)
            self.assertEqual((far_many(chain, far), far_passes(chain, far), far_passes(chain, far, turns=True)), (size, 1, 1))
            self.assertEqual(far_passes(Chain(twice, turn), far), 2 * size - 1)
            self.assertEqual(far_outcome(EVEN_NEVER, far), "ever" if size % 2 == 0 else "done")
            self.assertEqual(far_outcome(Chain(turn, EVEN_NEVER), far), "ever" if size % 2 == 0 else "done")
            for index in (0, 1, size // 3, size - 2, size - 1):
                letter = far_written(COPY, far, index)[0]
                self.assertEqual(far_written(COPY, far, index), (letter, index + 1))
                self.assertEqual(far_written(turn, far, size - 1 - index), (letter, index + 1))
                self.assertEqual(far_written(twice, far, size + index), (letter, index + 1))
                self.assertEqual(far_words(turn, far, index + 1), ((size - index, letter),))
                self.assertEqual(far_words(twice, far, index + 1), ((1, letter), (2, letter)))
                self.assertEqual(far_word(turn, writer(turn, 2), far, index + 1), letter if index == size - 2 else "")

    def test_long_texts_by_their_period(self):
        # What is written in one more repetition is the same for each of them.
        rnd = random.Random(4)
        for seed in range(25):
            program = Program(Sweeper(seed).program())
            piece = "".join(rnd.choice(program.symbols) for _ in range(rnd.randint(1, 4)))
            times = [12 * 37, 12 * 38, 12 * 39]
            many = [far_many(program, ((piece, each),)) for each in times]
            needed = [far_passes(program, ((piece, each),)) for each in times]
            for rows, call in ((many, far_many), (needed, far_passes)):
                self.assertEqual(rows[2] - rows[1], rows[1] - rows[0])
                self.assertEqual(call(program, ((piece, 12 * 10 ** 15),)), rows[0] + (rows[1] - rows[0]) * (10 ** 15 - 37))

    def test_other_nestings_of_the_same_long_text(self):
        rnd = random.Random(5)
        for machine in [Program(text) for text in (TWICE, FORTY_STATES, MANY_PREFIXES, NEXT)] + [chain_of(ONE_PREFIX_MORE)]:
            for _ in range(3):
                inner = tuple(("".join(rnd.choice("ab") for _ in range(rnd.randint(1, 20))), rnd.randint(1, 10 ** 6)) for _ in range(3))
                one = ((inner, 12 * 10 ** 9),)
                others = [((((inner, 4),), 3 * 10 ** 9),), ((inner, 10 ** 10), (inner, 2 * 10 ** 9)), ((inner, 1), (((inner, 1),), 12 * 10 ** 9 - 1))]
                expected = [far_length(one), far_outcome(machine, one), far_many(machine, one), far_passes(machine, one)]
                for other in others:
                    self.assertEqual(expected, [far_length(other), far_outcome(machine, other), far_many(machine, other),
                                                far_passes(machine, other)])
                if isinstance(machine, Program):
                    size = expected[0]
                    for position in (0, 1, size // 2, size, size + 1):
                        self.assertEqual({far_words(machine, other, position) for other in others}, {far_words(machine, one, position)})

    def test_the_limits(self):
        for far in AT_THE_LIMITS:
            size = far_length(far)
            for machine in (Program(TURN), chain_of((TURN, TWICE))):
                self.assertEqual(far_many(machine, far), size if isinstance(machine, Program) else 2 * size)
            self.assertEqual(far_words(COPY, far, size + 1), ())
            self.assertEqual(far_written(COPY, far, size - 1)[1], size)
        self.assertEqual([far_length(far) for far in AT_THE_LIMITS][-4:], [10 ** 24] * 4)

    def test_nothing_raises_too_many(self):
        for machine in (Program(ONE_SUFFIX_MORE), Program(MANY_PREFIXES), chain_of(ONE_PREFIX_MORE)):
            far = ((machine.symbols, 10 ** 17),)
            self.assertEqual(far_outcome(machine, far), "done")
            self.assertGreater(far_passes(machine, far), 0)
            self.assertGreater(far_passes(machine, far, turns=True), 0)
            if isinstance(machine, Program):
                many = far_many(machine, far)
                self.assertEqual(len(far_written(machine, far, many - 1)), 2)
                with self.assertRaises(TooMany):
                    writer(machine, 1)

    def test_runs_that_do_not_end(self):
        program = Program(LOOP_AT_B)
        for far, outcome in [((("b", 10 ** 18),), "ever"), ((("a", 10 ** 18),), "done"), ((("ba", 1),), "ever")]:
            self.assertEqual((far_outcome(program, far), far_many(program, far), far_passes(program, far)), (outcome, 0, 0))
            self.assertEqual(far_passes(program, far, turns=True), 0)
            self.assertEqual([far_words(program, far, position) for position in (0, 1, far_length(far) + 1)], [(), (), ()])
            with self.assertRaises(NoLetter):
                far_written(program, far, 0)
        self.assertEqual(far_outcome(Chain(COPY, program), (("b", 3),)), "ever")
        self.assertEqual(far_outcome(Chain(program, main("stop", symbols="xy")), (("b", 3),)), "ever")
        never = main("while at <", "  write x", symbols="xy")
        self.assertEqual(far_outcome(Chain(main("right", "while at b", "  write x", "write y"), never), (("a", 3),)), "ever")

    def test_the_first_of_a_chain_writes_nothing(self):
        chain = Chain(main("while not at >", "  right"), main("write z", "right", "write y"))
        far = (("ab", 10 ** 18),)
        self.assertEqual([far_outcome(chain, far), far_many(chain, far), far_passes(chain, far)], ["done", 2, 1])
        chain = Chain(main("while not at >", "  right"), main("right", "write z", "left", "write y"))
        self.assertEqual([far_many(chain, far), far_passes(chain, far), far_passes(chain, far, turns=True)], [2, 2, 2])

    def test_letters_of_a_chain_at_the_marks(self):
        # What the first program writes at a mark counts as written there, what the second one writes at its marks too.
        for one, other, many in [
            (main("while not at >", "  right", "write a"), main("while not at >", "  right", "write z", "left", "copy"), (1, 1)),
            (main("while not at >", "  right", "left", "write a"), main("while not at >", "  right", "write z", "left", "copy"), (2, 2)),
            (main("write a"), main("right", "copy", "left", "write z"), (1, 1)),
            (main("right", "write a"), main("right", "copy", "left", "write z"), (2, 2)),
            (main("while not at >", "  right", "write a"), main("write x", "right", "copy", "right", "write y"), (1, 1)),
        ]:
            chain = Chain(one, other)
            for far in [(("ab", 2),), (("ab", 10 ** 18),)]:
                self.assertEqual((far_passes(chain, far), far_passes(chain, far, turns=True)), many)
            self.check(chain, (("ab", 2),))

    def test_names_of_the_parameters(self):
        far = (("ab", 2),)
        self.assertEqual(far_length(far=far), 4)
        self.assertEqual(far_outcome(far=far, machine=COPY), "done")
        self.assertEqual(far_many(far=far, machine=COPY), 4)
        self.assertEqual(far_passes(turns=True, far=far, machine=COPY), 1)
        self.assertEqual(far_written(index=1, far=far, program=COPY), ("b", 2))
        self.assertEqual(far_words(position=2, far=far, program=COPY), ((1, "b"),))
        self.assertEqual(far_word(position=2, far=far, writer=writer(COPY, 1), program=COPY), "b")


class ErrorsTest(unittest.TestCase):
    def test_bad_far(self):
        for value in NO_FARS:
            kept = copy.deepcopy(value)
            for call in (lambda: far_length(value), lambda: far_outcome(COPY, value), lambda: far_many(Chain(COPY, COPY), value),
                         lambda: far_passes(COPY, value), lambda: far_passes(COPY, value, turns=True),
                         lambda: far_written(COPY, value, None), lambda: far_words(COPY, value, None),
                         lambda: far_word(COPY, None, value, None)):
                with self.assertRaises(BadFar) as caught:
                    call()
                self.assertIs(caught.exception.value, value)
            self.assertEqual(value, kept)

    def test_letters_that_are_no_symbols(self):
        far = (("ab", 3), ((("abc", 2),), 5))
        self.assertEqual(far_length(far), 36)
        self.assertEqual(far_length((("zxy", 10 ** 18), ("q", 1))), 3 * 10 ** 18 + 1)
        with self.assertRaises(BadFar) as caught:
            far_many(COPY, far)
        self.assertIs(caught.exception.value, far)
        copies = main("while not at >", "  copy", "  right", symbols="abc")
        self.assertEqual(far_many(copies, far), 36)
        # The symbols of a chain are those of its first program.
        chain = Chain(main("while not at >", "  right", "  write z"), main("while not at >", "  copy", "  right", symbols="abz"))
        self.assertEqual(far_many(chain, (("ab", 2),)), 5)
        with self.assertRaises(BadFar):
            far_many(chain, (("abz", 2),))

    def test_values_just_within_and_just_beyond(self):
        for far in AT_THE_LIMITS:
            self.assertGreater(far_length(far), 0)
        pairs = [(("a" * 20, 1),), (("a" * 21, 1),), (("a", 10 ** 18),), (("a", 10 ** 18 + 1),), (("a", 1),) * 6, (("a", 1),) * 7,
                 deep(4), deep(5)]
        for at, far in enumerate(pairs):
            if at % 2 == 0:
                far_length(far)
            else:
                with self.assertRaises(BadFar):
                    far_length(far)

    def test_no_letter(self):
        far = (("ab", 5),)
        for value in [10, -1, 10 ** 30, True, False, "1", "", *NO_STRINGS]:
            if not isinstance(value, bool) and value in (0, 1, 3):
                continue
            kept = copy.deepcopy(value)
            with self.assertRaises(NoLetter) as caught:
                far_written(COPY, far, value)
            self.assertIs(caught.exception.value, value)
            self.assertEqual(value, kept)
        self.assertEqual([far_written(COPY, far, index) for index in (0, 9)], [("a", 1), ("b", 10)])
        huge = (("ab", 10 ** 18),)
        self.assertEqual(far_written(COPY, huge, 2 * 10 ** 18 - 1), ("b", 2 * 10 ** 18))
        with self.assertRaises(NoLetter):
            far_written(COPY, huge, 2 * 10 ** 18)

    def test_bad_position(self):
        far, value_of = (("ab", 5),), writer(COPY, 1)
        for value in [12, -1, 10 ** 30, True, False, "1", "<", *NO_STRINGS]:
            if not isinstance(value, bool) and value in (0, 1, 3):
                continue
            kept = copy.deepcopy(value)
            for call in (lambda: far_words(COPY, far, value), lambda: far_word(COPY, value_of, far, value)):
                with self.assertRaises(BadPosition) as caught:
                    call()
                self.assertIs(caught.exception.value, value)
            self.assertEqual(value, kept)
        for position, word in ((0, ""), (1, "a"), (10, "b"), (11, "")):
            self.assertEqual(far_word(COPY, value_of, far, position), word)
            self.assertEqual(far_words(COPY, far, position), ((1, word),) if word else ())
        huge = (("ab", 10 ** 18),)
        for position in (0, 2 * 10 ** 18 + 1):
            self.assertEqual((far_words(COPY, huge, position), far_word(COPY, value_of, huge, position)), ((), ""))
        for call in (lambda: far_words(COPY, huge, 2 * 10 ** 18 + 2), lambda: far_word(COPY, value_of, huge, 2 * 10 ** 18 + 2)):
            with self.assertRaises(BadPosition):
                call()

    def test_errors_in_their_order(self):
        far, good = (("ab", 5),), writer(COPY, 1)
        for value in ["", None, good[:4], list(good), *NO_STRINGS]:
            for position in (1, -1, None):
                with self.assertRaises(BadWriter) as caught:
                    far_word(COPY, value, far, position)
                self.assertIs(caught.exception.value, value)
                with self.assertRaises(BadFar):
                    far_word(COPY, value, (("c", 1),), position)
        with self.assertRaises(BadFar):
            far_written(NEVER, (("ab", 0),), 0)
        with self.assertRaises(NoLetter):
            far_written(NEVER, far, 0)


class FarWordTest(unittest.TestCase):
    def test_least_writers(self):
        rnd = random.Random(6)
        for seed in range(50):
            program = Program(Sweeper(seed).program())
            for number in (1, 2, 3):
                try:
                    value = writer(program, number)
                except TooMany:
                    continue
                far = drawn_far(rnd, program.symbols)
                found = dict(written(program, value, text_of(far)))
                for position in range(0, len(text_of(far)) + 2, 3):
                    word = far_word(program, value, far, position)
                    self.assertEqual(word, found.get(position, ""))
                    self.assertEqual(word, dict(far_words(program, far, position)).get(number, ""))

    def test_any_writers(self):
        rnd = random.Random(7)
        for _ in range(60):
            value, far = random_writer(rnd, most=5), drawn_far(rnd, "ab", most=60)
            found = dict(written(COPY, value, text_of(far)))
            for position in range(len(text_of(far)) + 2):
                self.assertEqual(far_word(COPY, value, far, position), found.get(position, ""))

    def test_a_writer_of_many_states(self):
        # The left states count symbols modulo 97, the right ones modulo 89.
        lefts = tuple(((state + 1) % 97,) * 2 for state in range(97))
        rights = tuple(((state + 1) % 89,) * 2 for state in range(89))
        value = (lefts, rights, ((7, "f"),), ((5, "a", 6, "x"), (5, "b", 6, "y")), ((9, "l"),))
        for far in [(("ab", 10 ** 18),), (((("a", 10 ** 12),), 10 ** 12 - 1), ("b", 10 ** 12)), (("b", 97 * 89 * 10 ** 9 + 12),)]:
            size = far_length(far)
            self.assertEqual(far_word(COPY, value, far, 0), "f" if size % 89 == 7 else "")
            self.assertEqual(far_word(COPY, value, far, size + 1), "l" if size % 97 == 9 else "")
            at = next((at for at in range(6, 6 + 97 * 89, 97) if (size - at) % 89 == 6), None)
            self.assertEqual(far_word(COPY, value, far, at), {"a": "x", "b": "y"}[far_written(COPY, far, at - 1)[0]])
            self.assertEqual(far_word(COPY, value, far, at + 1), "")
            self.assertEqual([word for word in (far_word(COPY, value, far, place) for place in range(max(0, at - 50), at)) if word], [])

    def test_products_of_nestings(self):
        for one, two in itertools.product((1, 2, 3), (1, 2, 5)):
            far = ((((("aab", one),), two)), ("b", one))
            found = dict(written(Program(NEXT), writer(Program(NEXT), 1), text_of(far)))
            for position in range(far_length(far) + 2):
                self.assertEqual(far_word(Program(NEXT), writer(Program(NEXT), 1), far, position), found.get(position, ""))
