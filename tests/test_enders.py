"""Section 13: which runs end, which texts lead to an output."""

import copy
import itertools
import random
import unittest

from fewgoings.chains import Chain
from fewgoings.classes import prefixes
from fewgoings.enders import count, ender, leading
from fewgoings.errors import BadLength, BadOutcome, BadWord, OtherSymbols, TooMany
from fewgoings.programs import Program
from fewgoings.runs import run
from fewgoings.steps import first_state
from tests.brute import all_texts, entries, stretch, word_key
from tests.judges import closure
from tests.machines import COPY, NEVER, chain_of, main
from tests.randoms import Maker, Sweeper
from tests.samples import (
    LAST, LOOP_AT_B, MANY_PREFIXES, NEXT, NO_STRINGS, ONE_PREFIX_MORE, ONE_SUFFIX_MORE, SIXTY_PREFIXES, SIXTY_SUFFIXES,
    TURN, TWICE, TWO_HUNDRED,
)

# Never ends where the number of symbols is even.
EVEN_NEVER = main("while not at >", "  add n 1", "  right", "while n = 1", "  write x", head=["cell n 1"])
# Never ends where the last symbol but one is a b.
BUT_ONE = main("while not at >", "  right", "left", "left", "while at b", "  copy")


def random_machines(seeds):
    for seed in seeds:
        made = [Program(Sweeper(seed).program()), Program(Maker(seed).program())]
        # A loop behind the sweeps that goes on where the last symbols or cells are such.
        lines = Sweeper(seed).program().split("\n")
        symbol, cells = made[0].symbols[0], [f"{name} = 1" for name, _ in made[0].cells]
        lines += [f"  while not at <{symbol}", "    left", f"  while {random.Random(seed).choice(['at ' + symbol, *cells])}",
                  "    copy"]
        if len(made[0].statements) + 4 <= 20:
            made.append(Program("\n".join(lines)))
        copies = main("while not at >", "  copy", "  right", symbols=made[0].symbols)
        made.append(Chain(copies, made[-1] if made[-1].symbols == made[0].symbols else made[0]))
        try:
            made.append(Chain(Program(Sweeper(seed).program(letters="ab")), Program(Maker(seed + 1).program())))
        except OtherSymbols:
            pass
        for machine in made:
            try:
                prefixes(machine)
            except TooMany:
                continue
            yield machine


def short_texts(machine, more=0):
    return all_texts(machine.symbols, {2: 7, 3: 4, 4: 3}[len(machine.symbols)] + more)


class EnderTest(unittest.TestCase):
    def check(self, machine):
        """Compares with the runs on all short texts; returns the number of states."""
        moves, outcomes = ender(machine)
        self.assertEqual((type(moves), type(outcomes), len(moves)), (tuple, tuple, len(outcomes)))
        states = {"": 0}
        for text in short_texts(machine):
            if text:
                states[text] = moves[states[text[:-1]]][machine.symbols.index(text[-1])]
            self.assertEqual(outcomes[states[text]], run(machine, text)[0])
        met = [0]
        for state in met:
            met += [after for at, after in enumerate(moves[state]) if after not in met and after not in moves[state][:at]]
        self.assertEqual(met, list(range(len(moves))))
        for one, other in itertools.combinations(range(len(moves)), 2):
            self.assertTrue(self.is_parted(moves, outcomes, one, other))
        return len(moves)

    def is_parted(self, moves, outcomes, one, other):
        """Whether some text that follows leads from two states to different outcomes."""
        found, fresh = {(one, other)}, [(one, other)]
        for one, other in fresh:
            if outcomes[one] != outcomes[other]:
                return True
            for pair in zip(moves[one], moves[other]):
                if pair not in found:
                    found.add(pair)
                    fresh.append(pair)
        return False

    def test_the_example_of_the_document(self):
        program = Program(LOOP_AT_B)
        self.assertEqual([ender(program), count(program, "done", 3), leading(Program(TURN), "ab"), leading(program, "")],
                         [(((1, 2), (1, 1), (2, 2)), ("done", "done", "ever")), 4, (1, "ba"), (None, "")])

    def test_by_hand(self):
        for machine, expected in [
            (COPY, (((0, 0),), ("done",))), (NEVER, (((0, 0),), ("ever",))),
            (EVEN_NEVER, (((1, 1), (0, 0)), ("ever", "done"))),
            (main("right", "while at c", "  copy", symbols="abc"), (((1, 1, 2), (1, 1, 1), (2, 2, 2)), ("done", "done", "ever"))),
            (main("while not at a>", "  right", "while at a", "  left", "  right"), (((1, 0), (1, 1)), ("done", "ever"))),
            (Chain(COPY, NEVER), (((0, 0),), ("ever",))), (Chain(NEVER, main("stop", symbols="xy")), (((0, 0),), ("ever",))),
            (Chain(COPY, EVEN_NEVER), (((1, 1), (0, 0)), ("ever", "done"))),
            (Chain(EVEN_NEVER, main("right", "while at x", "  copy", symbols="xy")), (((1, 1), (0, 0)), ("ever", "done"))),
        ]:
            self.assertEqual(ender(machine), expected)
            self.check(machine)

    def test_a_state_for_each_of_the_last_symbols(self):
        self.assertEqual(ender(BUT_ONE), (((0, 1), (2, 3), (0, 1), (2, 3)), ("done", "done", "ever", "ever")))
        self.check(BUT_ONE)

    def test_a_chain_of_which_either_does_not_end(self):
        # The first does not end where a b comes first, the second where an even number of letters is written.
        chain = Chain(main("right", "while at b", "  copy", "while not at >", "  copy", "  right"), EVEN_NEVER)
        self.assertEqual(ender(chain), (((1, 2), (3, 3), (2, 2), (1, 1)), ("ever", "done", "ever", "ever")))
        self.check(chain)

    def test_samples(self):
        machines = [Program(text) for text in (TURN, TWICE, LAST, LOOP_AT_B, NEXT, SIXTY_SUFFIXES)]
        for machine in [*machines, chain_of(SIXTY_PREFIXES)]:
            self.check(machine)

    def test_random_machines(self):
        sizes = {}
        for machine in random_machines(range(60)):
            sizes[self.check(machine)] = True
        self.assertLessEqual({1, 2, 3}, set(sizes))

    def test_more_than_forty_states(self):
        # A writer may not have so many, an ender may. This one counts symbols modulo 45.
        program = main("while not at >", "  add n 1", "  if n = 0", "    add m 1", *["  right"] * 5, "if n = 1",
                       "  while m = 1", "    copy", head=["cell n 2", "cell m 2"])
        moves, outcomes = ender(program)
        self.assertEqual(moves, tuple(((state + 1) % 45,) * 2 for state in range(45)))
        self.assertEqual([state for state in range(45) if outcomes[state] == "ever"], [19])
        self.assertEqual([run(program, "a" * many)[0] for many in (19, 64, 20)], ["ever", "ever", "done"])
        self.assertEqual((count(program, "ever", 64), count(program, "ever", 65)), (2 ** 64, 0))

    def test_sixty_classes(self):
        for machine in (Program(ONE_SUFFIX_MORE), Program(MANY_PREFIXES), chain_of(ONE_PREFIX_MORE)):
            for call in (lambda: ender(machine), lambda: count(machine, "done", 0), lambda: count(machine, "ever", 100)):
                with self.assertRaises(TooMany) as caught:
                    call()
                self.assertEqual(caught.exception.value, 60)


class CountTest(unittest.TestCase):
    def test_beside_all_short_texts(self):
        for machine in random_machines(range(100, 130)):
            texts = short_texts(machine, -1)
            for length in range(len(texts[-1]) + 1):
                outcomes = [run(machine, text)[0] for text in texts if len(text) == length]
                for outcome in ("done", "ever"):
                    self.assertEqual(count(machine, outcome, length), outcomes.count(outcome))

    def test_long_texts(self):
        self.assertEqual(count(COPY, "done", 100), 2 ** 100)
        self.assertEqual(count(COPY, "ever", 100), 0)
        self.assertEqual(count(NEVER, "ever", 100), 2 ** 100)
        self.assertEqual([count(EVEN_NEVER, "ever", length) for length in (0, 99, 100)], [1, 0, 2 ** 100])
        self.assertEqual(count(BUT_ONE, "ever", 77), 2 ** 76)
        self.assertEqual(count(main("right", "while at c", "  copy", symbols="abcd"), "done", 60), 3 * 4 ** 59)

    def test_beside_the_moves_of_the_ender(self):
        for machine in random_machines(range(130, 150)):
            moves, outcomes = ender(machine)
            many = [1] + [0] * (len(moves) - 1)
            for length in range(101):
                for outcome in ("done", "ever"):
                    expected = sum(many[state] for state in range(len(moves)) if outcomes[state] == outcome)
                    if length % 9 == 1:
                        self.assertEqual(count(machine, outcome, length), expected)
                many = [sum(many[state] * row.count(after) for state, row in enumerate(moves)) for after in range(len(moves))]

    def test_errors_in_their_order(self):
        many = Program(ONE_SUFFIX_MORE)
        for value in ["", "Done", "done ", "never", *NO_STRINGS]:
            kept = copy.deepcopy(value)
            for program, length in [(COPY, 5), (COPY, None), (many, 101)]:
                with self.assertRaises(BadOutcome) as caught:
                    count(program, value, length)
                self.assertIs(caught.exception.value, value)
            self.assertEqual(value, kept)
        for value in [-1, 101, 10 ** 30, True, False, "5", "", *NO_STRINGS]:
            if not isinstance(value, bool) and value in (0, 1, 3):
                continue
            for program in (COPY, many):
                with self.assertRaises(BadLength) as caught:
                    count(program, "ever", value)
                self.assertIs(caught.exception.value, value)
        self.assertEqual((count(COPY, "done", 0), count(COPY, "done", 1)), (1, 2))

    def test_names_of_the_parameters(self):
        self.assertEqual(count(length=3, outcome="done", machine=COPY), 8)
        self.assertEqual(ender(machine=COPY), (((0, 0),), ("done",)))
        self.assertEqual(leading(word="ab", program=COPY), (1, "ab"))


def word_class_key(program, word, text):
    """What is equal just for prefixes that are equivalent for a word."""
    signs = "<" + text
    cases = [stretch(program, signs, first_state(program), 0)]
    cases += [stretch(program, signs, state, len(text)) for state in entries(program, -1)]
    return tuple(case if case == ("never",) else (*case[:-1], case[-1] if case[-1] in word else None) for case in cases)


def letters_on(program, text):
    result = run(program, text)
    return "".join(letter for letter, _ in result[1]) if result[0] == "done" else None


def leading_or_none(program, word):
    try:
        return leading(program, word)
    except TooMany:
        return None


class LeadingTest(unittest.TestCase):
    def check(self, program, word):
        """Compares with all short texts, and the finite number with all texts of twice as many classes."""
        many, text = leading(program, word)
        found = [other for other in short_texts(program) if letters_on(program, other) == word]
        if found:
            self.assertEqual(text, found[0])
        elif text is not None:
            self.assertEqual(letters_on(program, text), word)
            self.assertGreater(len(text), len(short_texts(program)[-1]))
        if many is not None:
            self.assertGreaterEqual(many, len(found))
            self.assertEqual(many == 0, text is None)
        return many, text, len(found)

    def test_by_hand(self):
        turn, twice, last = Program(TURN), Program(TWICE), Program(LAST)
        short = main("right", "while not at >", "  copy", "  right", "  if not at >", "    right")
        for program, word, expected in [
            (COPY, "", (1, "")), (COPY, "abbaab", (1, "abbaab")), (COPY, "x", (0, None)), (COPY, "abc", (0, None)),
            (turn, "aab", (1, "baa")), (twice, "abab", (1, "ab")), (twice, "aba", (0, None)), (twice, "bbbb", (1, "bb")),
            (last, "x", (None, "a")), (last, "y", (None, "")), (last, "xy", (0, None)), (last, "", (0, None)),
            (NEVER, "", (0, None)), (NEVER, "x", (0, None)), (NEVER, "xxxxxx", (0, None)),
            (short, "ab", (6, "aab")), (main("stop"), "", (None, "")), (main("write z"), "z", (None, "")),
            (main("right", "right", "right", "write z"), "z", (None, "aa")), (main("right", "copy", "right", "copy"), "b", (1, "b")),
            (main("right", "copy", "right", "copy"), "ab", (None, "ab")), (main("right", "copy", "right", "copy"), "", (1, "")),
            (EVEN_NEVER, "", (None, "a")), (main("right", "while at b", "  write x", "  left"), "x", (None, "b")),
        ]:
            self.assertEqual(leading(program, word), expected, (program.text, word))

    def test_beside_all_short_texts(self):
        kinds = {"none": 0, "some": 0, "many": 0}
        rnd = random.Random(8)
        for seed in range(60):
            for program in (Program(Sweeper(seed).program()), Program(Maker(seed).program())):
                words = {letters_on(program, text) for text in short_texts(program, -2)} - {None}
                words = sorted(word for word in words if len(word) <= 6)
                words = rnd.sample(words, min(4, len(words))) + ["", "a", "xz", "qqqqqq"]
                for word in sorted(set(words)):
                    if leading_or_none(program, word) is None:
                        continue
                    many, text, _ = self.check(program, word)
                    kinds["many" if many is None else "some" if many else "none"] += 1
        self.assertGreater(min(kinds.values()), 40)

    def test_finite_numbers_beside_all_texts(self):
        # At most as many symbols as letters, so all texts can be tried.
        for body in [("while not at >", "  copy", "  right"), ("while not at >", "  right", "left", "while not at <", "  copy", "  left"),
                     ("while not at >", "  if at a", "    copy", "  else", "    write a", "  right"),
                     ("while not at >", "  if at a", "    right", "    copy", "  else", "    write b", "    right"),
                     ("while not at >", "  right", "  if at b", "    write a", "    copy", "  else", "    copy")]:
            program = main(*body)
            for word in all_texts("ab", 4) + ["aaaaaa", "ababab", "bbbbba"]:
                many, text = leading(program, word)
                found = [other for other in all_texts("ab", 2 * len(word) + 1) if letters_on(program, other) == word] \
                    if len(word) < 6 else None
                if many is not None and found is not None:
                    self.assertEqual((many, text), (len(found), found[0] if found else None))
                elif found is not None:
                    self.assertEqual(text, found[0])

    def test_infinitely_many(self):
        # A ring that is met only on ways that do not lead to the word does not count.
        program = main("right", "if at a", "  copy", "  right", "  if not at >", "    left", "    while at a", "      right",
                       "      left", "else", "  while not at >", "    write z", "    right")
        self.assertEqual(leading(program, "a"), (1, "a"))
        self.assertEqual(leading(program, "z")[0], 1)
        self.assertEqual(leading(program, "zz"), (2, "ba"))
        self.assertEqual(leading(program, "zzzzzz"), (32, "baaaaa"))

    def test_bad_word(self):
        for value in ["abcdefg", "A", "aB", "a b", " ", "a\n", "\xe4", "1", "<", "aaaaaaaaaaaaaa", *NO_STRINGS]:
            kept = copy.deepcopy(value)
            for program in (COPY, Program(TURN)):
                with self.assertRaises(BadWord) as caught:
                    leading(program, value)
                self.assertIs(caught.exception.value, value)
            self.assertEqual(value, kept)
        for word in ("", "z", "abcdef"):
            leading(COPY, word)

    def test_two_hundred_classes(self):
        # Beside all classes, found on explicit texts.
        program = Program(TWO_HUNDRED)
        sizes = []
        for word in ("bbaazb", "abbyaa", "abyzab", "bb", "", "aaaaaa", "yzzazb"):
            many = self.classes_of(program, word)
            sizes.append(many)
            if many > 200:
                with self.assertRaises(TooMany) as caught:
                    leading(program, word)
                self.assertEqual(caught.exception.value, 200)
            else:
                leading(program, word)
        self.assertLessEqual({200, 201}, set(sizes))

    def test_fewer_classes(self):
        for seed in range(40):
            for program in (Program(Sweeper(seed).program()), Program(Maker(seed).program())):
                many = self.classes_of(program, "abab")
                self.assertLessEqual(many, 200)
                leading(program, "abab")

    def classes_of(self, program, word):
        """The number of classes, 201 for more than 200."""
        def key(text):
            return word_class_key(program, word, text)

        found, fresh = {key("")}, [""]
        for text in fresh:
            for symbol in program.symbols:
                if key(text + symbol) not in found:
                    found.add(key(text + symbol))
                    fresh.append(text + symbol)
                if len(found) > 200:
                    return 201
        return len(found)

    def test_the_sixty_classes_do_not_matter(self):
        self.assertEqual(leading(Program(ONE_SUFFIX_MORE), "a")[1] is None, True)
        self.assertIsNotNone(leading_or_none(Program(MANY_PREFIXES), "z"))

    def test_equivalent_words_are_those_of_the_document(self):
        # Only to be sure that the helpers of these tests agree with each other.
        self.assertEqual(word_key(COPY, "a"), word_key(COPY, "b"))
        self.assertEqual(len(closure(lambda text: word_class_key(COPY, "ab", text), "ab", lambda text, sign: text + sign)), 5)
