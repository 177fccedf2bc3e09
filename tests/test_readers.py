"""Section 11: readers."""

import copy
import random
import unittest

from fewgoings.errors import BadPass, BadSymbol, Barred, Closed, OtherSymbols, PassError, TooMany
from fewgoings.passes import passes
from fewgoings.programs import Program
from fewgoings.readers import Reader
from fewgoings.sights import lookahead
from tests.brute import all_texts, cut_passes, output_on
from tests.machines import COPY, main
from tests.randoms import Maker, Sweeper
from tests.samples import (
    LAST, LOOP_AT_B, MANY_PREFIXES, NEXT, NO_STRINGS, ONE_LEFT_STATE_MORE, ONE_RIGHT_STATE_MORE, ONE_SUFFIX_MORE,
    THREE_BACK, TURN, TWICE,
)

# Copies a alone, and z in the place of b.
OTHER_COPY = main("right", "while not at >", "  if at a", "    copy", "  else", "    write z", "  right")
# Writes nothing if the text has a b, otherwise copies it.
NO_B = main("while not at b>", "  right", "while at b", "  left", "  right", "while not at <", "  left",
            "while not at >", "  copy", "  right")


def words_on(program, number, text):
    """The words of all positions, the empty ones too."""
    found = cut_passes(output_on(program, text), False)
    known = dict(found[number - 1]) if len(found) >= number else {}
    return [known.get(position, "") for position in range(len(text) + 2)]


class Own:
    """What is settled, out of all continuations of up to some symbols."""

    def __init__(self, program, number, most):
        self.program, self.number = program, number
        self.tails = all_texts(program.symbols, most)
        self.known = {}

    def settled(self, text):
        """{position: word} behind a text that may go on."""
        if text not in self.known:
            rows = [words_on(self.program, self.number, text + tail) for tail in self.tails]
            kinds = [{row[position] for row in rows} for position in range(len(text) + 1)]
            self.known[text] = {at: min(words) for at, words in enumerate(kinds) if len(words) == 1}
        return self.known[text]


def random_programs(seeds):
    for seed in seeds:
        yield Program(Sweeper(seed).program())
        if seed % 4 == 0:
            yield Program(Maker(seed).program())


def readers_of(programs, numbers):
    """(program, number) that a Reader takes."""
    for program in programs:
        for number in numbers:
            try:
                Reader(program, number)
            except TooMany:
                continue
            yield program, number


def state_of(reader):
    return reader.text, reader.is_closed, reader.told, reader.held


class ReaderTest(unittest.TestCase):
    def check(self, program, number, text, most):
        """Reads a text and compares with an own comparison of all continuations."""
        own = Own(program, number, most)
        reader = Reader(program, number)
        before = {}
        for many in range(len(text) + 1):
            rows = reader.feed(text[many - 1]) if many else reader.told
            expected = own.settled(text[:many])
            self.assertEqual(reader.told, tuple(expected.items()))
            self.assertEqual(rows, tuple((at, word) for at, word in expected.items() if at not in before))
            self.assertEqual(reader.held, tuple(at for at in range(many + 1) if at not in expected))
            self.assertEqual((reader.text, reader.is_closed), (text[:many], False))
            before = expected
        whole = words_on(program, number, text)
        self.assertEqual(reader.close(), tuple((at, word) for at, word in enumerate(whole) if at not in before))
        self.assertEqual(state_of(reader), (text, True, tuple(enumerate(whole)), ()))

    def test_the_example_of_the_document(self):
        reader = Reader(Program(NEXT), 1)
        self.assertEqual([reader.told, reader.feed("b"), reader.held, reader.feed("a"), reader.close()],
                         [((0, ""),), (), (1,), ((1, "x"),), ((2, ""), (3, ""))])

    def test_samples(self):
        programs = [Program(text) for text in (TURN, TWICE, LAST, LOOP_AT_B, NEXT)] + [COPY, NO_B]
        for program, number in readers_of(programs, (1, 2, 3)):
            for text in ("", "a", "abba", "bbaab", "aaaa"):
                self.check(program, number, text, 4)

    def test_random_programs(self):
        rnd = random.Random(3)
        for program, number in readers_of(random_programs(range(70)), (1, 2, 3)):
            text = "".join(rnd.choice(program.symbols) for _ in range(rnd.randint(0, 5)))
            self.check(program, number, text, {2: 5, 3: 3, 4: 3}[len(program.symbols)])

    def test_the_empty_text(self):
        for program, number, told, rows in [
            (COPY, 1, ((0, ""),), ((1, ""),)), (Program(LAST), 1, (), ((0, "y"), (1, ""))),
            (Program(TURN), 2, ((0, ""),), ((1, ""),)), (main("write x"), 1, ((0, "x"),), ((1, ""),)),
            (main("while not at >", "  right", "write x"), 1, ((0, ""),), ((1, "x"),)),
        ]:
            reader = Reader(program, number)
            self.assertEqual(state_of(reader), ("", False, told, () if told else (0,)))
            self.assertEqual(reader.close(), rows)
            self.assertEqual(state_of(reader), ("", True, tuple(sorted(told + rows)), ()))

    def test_runs_that_do_not_end_write_nothing(self):
        reader = Reader(NO_B, 1)
        self.assertEqual([reader.feed("a"), reader.feed("a"), reader.held], [(), (), (1, 2)])
        self.assertEqual(reader.feed("b"), ((1, ""), (2, ""), (3, "")))
        self.assertEqual([reader.feed("a"), reader.close()], [((4, ""),), ((5, ""),)])
        reader = Reader(Program(LOOP_AT_B), 1)
        self.assertEqual([reader.feed("b"), reader.close()], [((1, ""),), ((2, ""),)])

    def test_settled_in_any_order(self):
        # The first symbol is told by the last one, all others at once.
        program = main("while not at >", "  right", "left", "if at a", "  set n 1", "while not at <", "  left", "right",
                       "if n = 1", "  write x", "while not at >", "  right", "  copy", head=["cell n 1"])
        reader = Reader(program, 1)
        self.assertEqual([reader.feed("b"), reader.feed("a"), reader.feed("b")], [(), ((2, "a"),), ((3, "b"),)])
        self.assertEqual([reader.told, reader.held], [((0, ""), (2, "a"), (3, "b")), (1,)])
        self.assertEqual(reader.feed("a"), ((4, "a"),))
        self.assertEqual(reader.close(), ((1, "x"), (5, "")))
        self.assertEqual(reader.told, ((0, ""), (1, "x"), (2, "a"), (3, "b"), (4, "a"), (5, "")))

    def test_long_texts(self):
        rnd = random.Random(4)
        everything = main("while not at >", "  right", "left", "if at a", "  set n 1", "while not at <", "  left",
                          "while not at >", "  copy", "  if n = 1", "    write x", "  right", head=["cell n 1"])
        for program, number, many in [(COPY, 1, 4000), (Program(NEXT), 1, 4000), (everything, 1, 3000), (NO_B, 1, 3000),
                                      (Program(TURN), 3, 1000), (Program(TWICE), 2, 1000)]:
            text = "".join(rnd.choice("ab") for _ in range(many)) if program is not NO_B else "a" * many
            reader = Reader(program, number)
            told = list(reader.told)
            for symbol in text:
                told += reader.feed(symbol)
            self.assertEqual(tuple(sorted(told)), reader.told)
            self.assertEqual(reader.held, tuple(sorted(set(range(many + 1)) - {at for at, _ in told})))
            told += reader.close()
            self.assertEqual(tuple(sorted(told)), reader.told)
            self.assertEqual(reader.told, tuple(enumerate(words_on(program, number, text))))
        self.assertEqual(len(told), many + 2)

    def test_no_position_waits_longer_than_the_lookahead(self):
        for program, number in readers_of(random_programs(range(200, 230)), (1, 2)):
            found = lookahead(program, number)
            if found[0] == "sees":
                reader = Reader(program, number)
                for symbol in program.symbols * 8:
                    reader.feed(symbol)
                    self.assertLessEqual(len(reader.held), found[1])

    def test_closed(self):
        reader = Reader(Program(NEXT), 1)
        reader.feed("b")
        reader.close()
        kept = state_of(reader)
        for call in (lambda: reader.feed("a"), lambda: reader.feed(None), reader.close, lambda: reader.move(COPY, 1),
                     lambda: reader.move(main("right", symbols="xy"), 0)):
            with self.assertRaises(Closed) as caught:
                call()
            self.assertIsNone(caught.exception.value)
            self.assertEqual(state_of(reader), kept)

    def test_bad_symbol(self):
        reader = Reader(Program(NEXT), 1)
        reader.feed("b")
        kept = state_of(reader)
        for value in ["", "c", "ab", "ba", "A", "<", ">", " ", "a\n", *NO_STRINGS]:
            other = copy.deepcopy(value)
            with self.assertRaises(BadSymbol) as caught:
                reader.feed(value)
            self.assertIs(caught.exception.value, value)
            self.assertEqual(value, other)
            self.assertEqual(state_of(reader), kept)
        self.assertEqual([reader.feed("a"), reader.close()], [((1, "x"),), ((2, ""), (3, ""))])

    def test_bad_pass_and_too_many(self):
        for value in [0, 10, -1, True, False, "1", None, (), [1], {}]:
            for text in (TURN, ONE_SUFFIX_MORE):
                with self.assertRaises(BadPass) as caught:
                    Reader(Program(text), value)
                self.assertIs(caught.exception.value, value)
        for text, number, many in [(ONE_RIGHT_STATE_MORE, 7, 40), (ONE_LEFT_STATE_MORE, 4, 40), (ONE_SUFFIX_MORE, 1, 60),
                                   (MANY_PREFIXES, 2, 60)]:
            with self.assertRaises(TooMany) as caught:
                Reader(Program(text), number)
            self.assertEqual(caught.exception.value, many)

    def test_two_readers_do_not_touch_each_other(self):
        one, other = Reader(Program(NEXT), 1), Reader(Program(NEXT), 1)
        one.feed("b")
        self.assertEqual(state_of(other), ("", False, ((0, ""),), ()))
        other.feed("a")
        self.assertEqual([one.feed("a"), other.feed("b")], [((1, "x"),), ((1, ""),)])

    def test_names_of_the_parameters(self):
        reader = Reader(number=1, program=Program(NEXT))
        self.assertEqual(reader.feed(symbol="b"), ())
        self.assertEqual(reader.move(number=2, program=COPY), ((1, ""),))


class MoveTest(unittest.TestCase):
    def test_to_another_pass(self):
        reader = Reader(Program(TURN), 1)
        self.assertEqual(reader.move(Program(TURN), 3), ())
        for symbol in "abb":
            self.assertEqual(reader.feed(symbol), ())
        self.assertEqual([reader.feed("a"), reader.held, reader.close()],
                         [((1, ""),), (2, 3, 4), ((2, "b"), (3, ""), (4, ""), (5, ""))])
        reader = Reader(Program(TURN), 1)
        reader.feed("a")
        reader.feed("b")
        with self.assertRaises(Barred) as caught:
            reader.move(Program(TURN), 2)
        self.assertEqual(caught.exception.value, 1)

    def test_beside_an_own_comparison(self):
        rnd = random.Random(6)
        kinds = {"barred": 0, "more": 0, "nothing": 0}
        programs = [program for program in random_programs(range(120)) if program.symbols == "ab"]
        taken = list(readers_of(programs, (1, 2)))
        for _ in range(250):
            (one, number), (other, second) = rnd.choice(taken), rnd.choice(taken)
            text = "".join(rnd.choice("ab") for _ in range(rnd.randint(0, 4)))
            reader = Reader(one, number)
            for symbol in text:
                reader.feed(symbol)
            kept = state_of(reader)
            told, words = dict(reader.told), Own(other, second, 5).settled(text)
            bars = [at for at, word in told.items() if words.get(at) != word]
            if bars:
                with self.assertRaises(Barred) as caught:
                    reader.move(other, second)
                self.assertEqual(caught.exception.value, min(bars))
                self.assertEqual(state_of(reader), kept)
                going_on = Reader(one, number)
                kinds["barred"] += 1
            else:
                rows = reader.move(other, second)
                self.assertEqual(rows, tuple((at, word) for at, word in words.items() if at not in told))
                going_on = Reader(other, second)
                kinds["more" if rows else "nothing"] += 1
            for symbol in text:
                going_on.feed(symbol)
            self.assertEqual(state_of(reader), state_of(going_on))
            for symbol in "abba":
                self.assertEqual(reader.feed(symbol), going_on.feed(symbol))
                self.assertEqual(state_of(reader), state_of(going_on))
            self.assertEqual(reader.close(), going_on.close())
        self.assertGreater(min(kinds.values()), 10)

    def test_barred_by_another_word(self):
        reader = Reader(COPY, 1)
        for symbol in "aab":
            reader.feed(symbol)
        with self.assertRaises(Barred) as caught:
            reader.move(OTHER_COPY, 1)
        self.assertEqual(caught.exception.value, 3)
        self.assertEqual(state_of(reader), ("aab", False, ((0, ""), (1, "a"), (2, "a"), (3, "b")), ()))
        self.assertEqual(reader.feed("b"), ((4, "b"),))

    def test_barred_by_what_is_not_settled(self):
        reader = Reader(COPY, 1)
        reader.feed("a")
        with self.assertRaises(Barred) as caught:
            reader.move(Program(LAST), 1)
        self.assertEqual(caught.exception.value, 0)
        with self.assertRaises(Barred) as caught:
            reader.move(Program(NEXT), 1)
        self.assertEqual(caught.exception.value, 1)
        self.assertEqual((reader.feed("b"), reader.text), (((2, "b"),), "ab"))

    def test_feeding_goes_on_with_the_other_pass(self):
        reader = Reader(Program(NEXT), 1)
        self.assertEqual([reader.feed("a"), reader.feed("b"), reader.held], [(), ((1, ""),), (2,)])
        silent = main("while not at >", "  right")
        self.assertEqual(reader.move(silent, 1), ((2, ""),))
        self.assertEqual([reader.feed("a"), reader.held, reader.text], [((3, ""),), (), "aba"])
        self.assertEqual(reader.close(), ((4, ""),))

    def test_to_itself(self):
        reader = Reader(Program(NEXT), 1)
        reader.feed("a")
        self.assertEqual(reader.move(Program(NEXT), 1), ())
        self.assertEqual(state_of(reader), ("a", False, ((0, ""),), (1,)))

    def test_before_the_first_symbol(self):
        reader = Reader(Program(LAST), 1)
        self.assertEqual(reader.held, (0,))
        self.assertEqual(reader.move(main("write z"), 1), ((0, "z"),))
        self.assertEqual(reader.close(), ((1, ""),))

    def test_errors_in_their_order(self):
        reader = Reader(COPY, 1)
        reader.feed("a")
        kept = state_of(reader)
        others = main("right", symbols="abc")
        for program, number, kind, value in [
            (others, 0, OtherSymbols, others), (Program(ONE_SUFFIX_MORE), 1, OtherSymbols, Program(ONE_SUFFIX_MORE)),
            (Program(MANY_PREFIXES), 0, BadPass, 0), (COPY, True, BadPass, True), (COPY, None, BadPass, None),
            (Program(MANY_PREFIXES), 1, TooMany, 60), (Program(LAST), 1, Barred, 0), (OTHER_COPY, 2, Barred, 1),
        ]:
            with self.assertRaises(PassError) as caught:
                reader.move(program, number)
            self.assertIs(type(caught.exception), kind)
            self.assertEqual(caught.exception.value, value)
            self.assertEqual(state_of(reader), kept)
        three = Reader(main("while not at >", "  right", symbols="abc"), 1)
        with self.assertRaises(TooMany) as caught:
            three.move(Program(THREE_BACK), 4)
        self.assertEqual(caught.exception.value, 40)
        self.assertEqual(three.feed("c"), ((1, ""),))

    def test_the_very_program_of_other_symbols(self):
        reader, other = Reader(COPY, 1), main("right", symbols="ac")
        with self.assertRaises(OtherSymbols) as caught:
            reader.move(other, 1)
        self.assertIs(caught.exception.value, other)

    def test_told_words_are_those_of_passes(self):
        for program, number in readers_of(random_programs(range(300, 320)), (1, 2)):
            text = program.symbols * 3
            reader = Reader(program, number)
            for symbol in text:
                reader.feed(symbol)
            reader.close()
            found = passes(program, text)
            expected = found[number - 1] if len(found) >= number else ()
            self.assertEqual(tuple(row for row in reader.told if row[1]), expected)
