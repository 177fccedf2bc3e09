"""Section 6: passes, traces and the output of traces."""

import copy
import itertools
import random
import unittest

from fewgoings.chains import Chain
from fewgoings.errors import BadText, OtherSymbols
from fewgoings.passes import output_of, passes, traces
from fewgoings.programs import Program
from fewgoings.runs import run
from tests.brute import all_texts, cost_at, cut_passes, output_on, trace_at
from tests.machines import COPY, main
from tests.randoms import Maker, Sweeper
from tests.samples import LAST, LOOP_AT_B, NO_STRINGS, TURN, TWICE

MARKS = main("write l", "while not at >", "  right", "write r", "while not at <", "  left", "write l")


def machines(seeds):
    """Programs of all forms, programs of sweeps, and chains."""
    for seed in seeds:
        yield Program(Maker(seed).program())
        yield Program(Sweeper(seed).program())
        maker = Sweeper(seed)
        try:
            yield Chain(Program(maker.program(letters="ab")), Program(maker.program("ab")))
        except OtherSymbols:
            pass


def short_texts(machine):
    return all_texts(machine.symbols, {2: 5, 3: 3, 4: 3}[len(machine.symbols)])


class PassesTest(unittest.TestCase):
    def test_the_examples_of_the_document(self):
        turn, twice = Program(TURN), Program(TWICE)
        self.assertEqual(passes(twice, "ab"), (((1, "a"), (2, "b")), ((1, "a"), (2, "b"))))
        self.assertEqual(passes(turn, "ab", turns=True), (((2, "b"),), ((1, "a"),)))
        chain = Chain(turn, turn)
        self.assertEqual([run(chain, "ab"), passes(chain, "ab")],
                         [("done", (("a", 1, 2), ("b", 2, 1))), (((1, "a"), (2, "b")),)])

    def test_all_short_texts_beside_an_own_cutting(self):
        many = {}
        for machine in machines(range(60)):
            for text in short_texts(machine):
                output = output_on(machine, text)
                for turns in (False, True):
                    found = passes(machine, text, turns=turns)
                    self.assertEqual(found, cut_passes(output, turns))
                    costs = sum(cost_at(trace, turns) for trace in traces(machine, text))
                    self.assertEqual(len(found), 1 + costs if output else 0)
                    many[len(found)] = True
        self.assertLessEqual(set(range(7)), set(many))

    def test_nothing_written(self):
        for machine, text in [(main("right"), "ab"), (COPY, ""), (Program(TURN), ""), (Chain(COPY, COPY), "")]:
            self.assertEqual(passes(machine, text), ())
            self.assertEqual(passes(machine, text, turns=True), ())

    def test_a_run_that_does_not_end_writes_nothing(self):
        program = main("copy", "right", "copy", "while at b", "  write x")
        self.assertEqual(passes(program, "a"), (((1, "a"),),))
        self.assertEqual(passes(program, "b"), ())
        self.assertEqual(passes(program, "b", turns=True), ())
        for chain in (Chain(Program(LOOP_AT_B), main("write x", symbols="xy")), Chain(COPY, Program(LOOP_AT_B))):
            self.assertEqual(passes(chain, "b"), ())

    def test_letters_at_the_marks_alone(self):
        self.assertEqual(passes(MARKS, "ab"), (((0, "l"), (3, "r")), ((0, "l"),)))
        self.assertEqual(passes(MARKS, "ab", turns=True), (((0, "l"), (3, "r")), ((0, "l"),)))
        self.assertEqual(passes(MARKS, ""), (((0, "l"), (1, "r")), ((0, "l"),)))

    def test_a_chain_whose_output_stands_at_the_marks(self):
        for chain in (Chain(COPY, MARKS), Chain(main("right"), MARKS)):
            self.assertEqual(passes(chain, "aba"), (((0, "l"), (4, "r")), ((0, "l"),)))
        self.assertEqual(passes(Chain(COPY, MARKS), ""), (((0, "l"), (1, "r")), ((0, "l"),)))

    def test_several_letters_at_one_position(self):
        program = main("right", "copy", "write x", "right", "left", "write y")
        self.assertEqual(passes(program, "ba"), (((1, "bxy"),),))
        self.assertEqual(traces(program, "ba"), (("above",), ("b", "x", "y"), ("below",), ("below",)))

    def test_letters_of_one_position_in_two_passes(self):
        program = main("right", "copy", "right", "copy", "left", "copy", "copy")
        self.assertEqual(passes(program, "ab"), (((1, "a"), (2, "b")), ((1, "aa"),)))
        self.assertEqual(passes(program, "ab", turns=True), (((1, "a"), (2, "b")), ((1, "aa"),)))

    def test_by_turns_each_pass_takes_what_it_can(self):
        program = main("while not at >", "  copy", "  right", "left", "while not at <", "  copy", "  left", "write x")
        self.assertEqual(passes(program, "ab", turns=True), (((1, "a"), (2, "bb")), ((1, "a"), (0, "x"))))
        self.assertEqual(len(passes(program, "ab")), 3)

    def test_the_first_pass_by_turns_goes_to_the_right(self):
        program = main("right", "right", "copy", "left", "copy", "left", "write x")
        self.assertEqual(passes(program, "ab", turns=True), (((2, "b"),), ((1, "a"), (0, "x"))))

    def test_a_long_text(self):
        text = "ab" * 50
        self.assertEqual(len(passes(Program(TURN), text)), 100)
        self.assertEqual(len(passes(Program(TURN), text, turns=True)), 2)
        self.assertEqual(passes(Chain(Program(TWICE), COPY), text), (tuple(enumerate(text, start=1)),) * 2)

    def test_bad_text(self):
        for machine in (Program(TURN), Chain(COPY, COPY)):
            for value in [*NO_STRINGS, "c", "ab ", "abx", "<ab>"]:
                kept = copy.deepcopy(value)
                for call in (lambda: passes(machine, value), lambda: passes(machine, value, turns=True),
                             lambda: traces(machine, value)):
                    with self.assertRaises(BadText) as caught:
                        call()
                    self.assertIs(caught.exception.value, value)
                    self.assertEqual(value, kept)

    def test_names_of_the_parameters(self):
        turn = Program(TURN)
        self.assertEqual(passes(text="ab", machine=turn, turns=True), passes(turn, "ab", turns=True))
        self.assertEqual(traces(text="ab", machine=turn), traces(turn, "ab"))
        self.assertEqual(output_of(traces=traces(turn, "ab")), (("b", 2), ("a", 1)))
        with self.assertRaises(TypeError):
            passes(turn, "ab", True)

    def test_kinds_of_what_is_returned(self):
        found = passes(Program(TWICE), "ab")
        for value in (found, *found, *found[0], traces(COPY, "ab"), *traces(COPY, "ab"), output_of(traces(COPY, "ab"))):
            self.assertIs(type(value), tuple)


class TracesTest(unittest.TestCase):
    def test_the_examples_of_the_document(self):
        turn = Program(TURN)
        found = traces(turn, "ab")
        self.assertEqual(found, (("above",), ("above", "a"), ("b", "below"), ("below",)))
        self.assertEqual(output_of(found), (("b", 2), ("a", 1)))
        self.assertIsNone(output_of((("a",), ())))

    def test_all_short_texts_beside_an_own_reading(self):
        for machine in machines(range(60)):
            for text in short_texts(machine):
                output = output_on(machine, text)
                found = traces(machine, text)
                self.assertEqual(found, tuple(trace_at(output, position) for position in range(len(text) + 2)))
                self.assertEqual(output_of(found), tuple(output))

    def test_nothing_written(self):
        self.assertEqual(traces(COPY, ""), ((), ()))
        self.assertEqual(traces(Program(LOOP_AT_B), "bab"), ((),) * 5)
        self.assertEqual(traces(main("write x", "while at <", "  write y"), "b"), ((), (), ()))
        self.assertEqual(traces(Chain(COPY, Program(LOOP_AT_B)), "b"), ((), (), ()))

    def test_the_marks(self):
        self.assertEqual(traces(MARKS, "a"), (("l", "above", "l"), ("below", "above", "below"), ("below", "r", "below")))
        self.assertEqual(traces(Chain(COPY, MARKS), ""), (("l", "above", "l"), ("below", "r", "below")))

    def test_last(self):
        self.assertEqual(traces(Program(LAST), "ba"), (("x",), ("below",), ("below",), ("below",)))


def traces_of(output, many):
    """The traces of so many positions."""
    return tuple(trace_at(output, position) for position in range(many))


def outputs_with(value):
    """All outputs that have these traces, found by trying all orders of the letters."""
    letters = [[word for word in trace if len(word) == 1] for trace in value]
    places = [position for position, row in enumerate(letters) for _ in row]
    found = []
    for order in sorted(set(itertools.permutations(places))):
        rows = [list(row) for row in letters]
        output = tuple((rows[position].pop(0), position) for position in order)
        if traces_of(output, len(value)) == value:
            found.append(output)
    return found


def changed(rnd, value):
    """Traces with one word or trace left out, put in, doubled or exchanged."""
    rows = [list(trace) for trace in value]
    at = rnd.randrange(len(rows))
    row = rows[at]
    change = rnd.randrange(8)
    place = rnd.randrange(len(row)) if row else 0
    word = rnd.choice(["below", "above", "a", "b"])
    if change == 0 and row:
        del row[place]
    elif change == 1:
        row.insert(rnd.randint(0, len(row)), word)
    elif change == 2 and row:
        row.insert(place, row[place])
    elif change == 3 and row:
        row[place] = word
    elif change == 4 and len(rows) > 2:
        del rows[at]
    elif change == 5:
        rows.insert(at, list(rnd.choice(rows)))
    elif change == 6:
        row.reverse()
    else:
        other = rnd.randrange(len(rows))
        rows[at], rows[other] = rows[other], rows[at]
    return tuple(tuple(trace) for trace in rows)


class OutputOfTest(unittest.TestCase):
    def test_any_output_comes_back(self):
        rnd = random.Random(1)
        for _ in range(500):
            many = rnd.randint(2, 6)
            output = tuple((rnd.choice("abz"), rnd.randrange(many)) for _ in range(rnd.randint(0, 12)))
            self.assertEqual(output_of(traces_of(output, many)), output)

    def test_changed_traces(self):
        rnd = random.Random(2)
        found = {True: 0, False: 0}
        for _ in range(1500):
            many = rnd.randint(2, 4)
            output = tuple((rnd.choice("ab"), rnd.randrange(many)) for _ in range(rnd.randint(0, 5)))
            value = traces_of(output, many)
            for _ in range(rnd.randint(1, 2)):
                value = changed(rnd, value)
            expected = outputs_with(value)
            self.assertLessEqual(len(expected), 1)
            self.assertEqual(output_of(value), expected[0] if expected else None, value)
            found[bool(expected)] += 1
        self.assertGreater(min(found.values()), 150)

    def test_nothing_written(self):
        self.assertEqual(output_of(((), ())), ())
        self.assertEqual(output_of(((),) * 7), ())

    def test_fewer_than_two_tuples(self):
        for value in [(), ((),), (("a",),)]:
            self.assertIsNone(output_of(value))

    def test_lists_in_the_place_of_tuples(self):
        self.assertEqual(output_of((("a",), ("below",))), (("a", 0),))
        for value in [[("a",), ("below",)], (["a"], ("below",)), (("a",), ["below"]), [["a"], ["below"]]]:
            self.assertIsNone(output_of(value))
        self.assertIsNone(output_of([(), ()]))
        self.assertIsNone(output_of(((), [])))

    def test_words_of_other_kinds_and_letters_that_are_none(self):
        for word in ["", "A", "1", "ab", "Below", "below ", "<", "\n", "\xe4", "belo", b"a", *NO_STRINGS]:
            for value in [((word,), ("below",)), (("a",), (word,)), (("a",), ("below", word)), ((), (), (word,))]:
                self.assertIsNone(output_of(value), value)

    def test_words_that_lead_out_of_the_text(self):
        for value in [(("a", "below"), ("below", "b")), (("a", "below"), ("below", "below")),
                      (("above", "b"), ("a", "above")), (("a", "below", "b"), ("below",), ("below", "c"))]:
            self.assertIsNone(output_of(value))

    def test_other_words_in_the_place_of_below_and_above(self):
        self.assertEqual(output_of((("x", "above", "c"), ("below", "a", "below"))), (("x", 0), ("a", 1), ("c", 0)))
        for word in ["ab", "under", "", "x"]:
            self.assertIsNone(output_of((("x", "above", "c"), ("below", "a", word))))
            self.assertIsNone(output_of((("x", word, "c"), ("below", "a", "below"))))

    def test_any_value(self):
        for value in ["", "a", "ab", "below", ("a", "b"), ("above", "below"), ("a", ()), ((), "a"), *NO_STRINGS]:
            kept = copy.deepcopy(value)
            self.assertIsNone(output_of(value))
            self.assertEqual(value, kept)

    def test_repeated_words(self):
        for value in [
            (("a",), ("below", "below")), (("above", "above"), ("a",)), (("a", "above"), ("below",)),
            (("a",), ("above",)), (("below",), ("a",)), (("a",), ("a",)), (("above",), ("below",)),
            (("a", "above"), ("below", "a", "below")), (("a", "below"), ("below",)), (("above", "a"), ("above", "b")),
        ]:
            self.assertIsNone(output_of(value), value)

    def test_many_letters(self):
        output = tuple((letter, position) for _ in range(40) for position in range(60) for letter in "ab")
        self.assertEqual(output_of(traces_of(output, 61)), output)
