"""Section 7: equivalent prefixes and suffixes."""

import copy
import random
import unittest

from fewgoings.chains import Chain
from fewgoings.classes import prefix_of, prefixes, suffix_of, suffixes
from fewgoings.errors import BadText, OtherSymbols, TooMany
from fewgoings.passes import traces
from fewgoings.programs import Program
from fewgoings.runs import run
from tests.brute import Keys, all_texts, in_text_order, least_by
from tests.machines import chain_of, main
from tests.randoms import Maker, Sweeper
from tests.samples import (
    LAST, LOOP_AT_B, MANY_PREFIXES, NO_STRINGS, ONE_PREFIX_MORE, ONE_SUFFIX_MORE, SIXTY_PREFIXES, SIXTY_SUFFIXES,
    THREE_BACK, TURN, TWICE,
)


def random_machines(seeds):
    """Machines of all kinds that have at most sixty classes on each side."""
    for seed in seeds:
        maker = Sweeper(seed)
        made = [Program(Maker(seed).program()), Program(Sweeper(seed).program())]
        for maker in (Maker(seed), Sweeper(seed)):
            try:
                made.append(Chain(Program(maker.program()), Program(maker.program())))
            except OtherSymbols:
                pass
        maker = Sweeper(seed)
        try:
            made.append(Chain(Program(maker.program(letters="ab")), Program(maker.program("ab"))))
        except OtherSymbols:
            pass
        for machine in made:
            try:
                prefixes(machine)
            except TooMany:
                continue
            yield machine


def short_texts(machine):
    return all_texts(machine.symbols, {2: 5, 3: 3, 4: 3}[len(machine.symbols)])


class ClassesTest(unittest.TestCase):
    def check(self, machine, texts=None):
        """Compares with all short texts, sorted into classes as the document defines them."""
        keys = Keys(machine)
        texts = short_texts(machine) if texts is None else texts
        longest = len(texts[-1])
        for all_of, one_of, key in [(prefixes, prefix_of, keys.prefix), (suffixes, suffix_of, keys.suffix)]:
            least = least_by(key, texts)
            found = all_of(machine)
            self.assertIs(type(found), tuple)
            self.assertEqual(tuple(text for text in found if len(text) <= longest), tuple(least.values()))
            self.assertEqual(list(found), in_text_order(found))
            for text in texts[::5]:
                self.assertEqual(one_of(machine, text), least[key(text)])

    def test_the_examples_of_the_document(self):
        turn, last = Program(TURN), Program(LAST)
        self.assertEqual([prefixes(turn), suffixes(turn), prefix_of(turn, "bab"), prefixes(last), suffixes(last)],
                         [("", "a"), ("", "a"), "a", ("",), ("", "a", "b")])

    def test_samples(self):
        turn, twice = Program(TURN), Program(TWICE)
        for machine in [
            turn, twice, Program(LAST), Program(LOOP_AT_B), Chain(turn, turn), Chain(turn, twice), Chain(twice, turn),
            Chain(twice, Program(LAST)), Chain(turn, Program(LOOP_AT_B)), chain_of(SIXTY_PREFIXES),
            Program(SIXTY_SUFFIXES), Program(THREE_BACK),
        ]:
            self.check(machine)

    def test_random_machines(self):
        for machine in random_machines(range(60)):
            self.check(machine)

    def test_entries_with_the_control_at_the_end(self):
        # What moves last leads to an entry with the control (), also from parts and under cells.
        at_ends = [
            main("right"), main("right", "left"), main("while at <", "  right", "left"),
            main("if at <", "  right", "write x", "right"), main("right", "if at a", "  left", "else", "  right"),
            main("right", "if at a", "  add n 1", "write x", "left", head=["cell n 1"]),
            main("do p", head=["part p", "  right", "  if at b", "    right"]),
            main("right", "if at b", "  set n 2", "  right", "while n = 2", "  right", head=["cell n 2"]),
            main("while not at b", "  right", "add n 1", "left", "right", head=["cell n 1"]),
        ]
        for program in at_ends:
            self.check(program)
            self.check(Chain(program, main("while not at >", "  right", "left", symbols="abx")))

    def test_one_class_on_each_side(self):
        for machine in [main("while not at >", "  right"), main("write x"), main("stop"), main("while at <", "  copy"),
                        Chain(main("stop"), Program(TURN))]:
            self.assertEqual((prefixes(machine), suffixes(machine)), (("",), ("",)))
            self.assertEqual((prefix_of(machine, "abba"), suffix_of(machine, "abba")), ("", ""))

    def test_a_first_step_that_ends_behind_the_mark(self):
        self.assertEqual((prefixes(main("right")), suffixes(main("right"))), (("", "a"), ("",)))

    def test_a_program_that_counts(self):
        program = main("while not at >", "  if at a", "    add n 1", "  right", "if n = 2", "  write x", head=["cell n 2"])
        self.assertEqual(prefixes(program), ("", "a", "aa"))
        self.assertEqual(prefix_of(program, "baabbaab"), "a")
        self.assertEqual(suffixes(program), ("", "a", "aa"))
        self.check(program)

    def test_runs_that_never_end_within_a_prefix(self):
        program = Program(LOOP_AT_B)
        self.assertEqual(prefixes(program), ("", "a", "b"))
        self.assertEqual(prefix_of(program, "ba"), "b")
        self.check(program)
        program = main("while not at b", "  right", "left", "while at a", "  write x", "right")
        self.check(program)
        self.check(Chain(program, main("right", "while at x", "  write x", symbols="xy")))

    def test_only_whether_something_is_written_matters(self):
        program = main("while not at >", "  if at a", "    write x", "  if at b", "    write y", "    write y",
                       "  right", symbols="abc")
        self.assertEqual(prefixes(program), ("", "a"))
        self.assertEqual(suffixes(program), ("", "a"))

    def test_words_of_a_chain_that_are_equivalent_for_the_second_program(self):
        copying = main("while not at >", "  copy", "  right")
        # The empty word is equivalent to all others if nothing is written on the way.
        self.assertEqual(prefixes(Chain(copying, main("while not at >", "  right"))), ("",))
        self.assertEqual(prefixes(Chain(copying, copying)), ("", "a"))
        # Here words with an even number of a are told from those with an odd one.
        odd = main("while not at >", "  if at a", "    add n 1", "  right", "if n = 1", "  write x", head=["cell n 1"])
        self.assertEqual(prefixes(Chain(copying, odd)), ("", "a"))
        self.assertEqual(prefix_of(Chain(copying, odd), "abab"), "")
        self.assertEqual(prefix_of(Chain(main("while not at >", "  copy", "  copy", "  right"), odd), "a"), "")

    def test_words_that_one_writes_last_and_those_that_are_never_left(self):
        turn = Program(TURN)
        stops = main("while not at b", "  copy", "  right", "stop")
        self.check(Chain(stops, turn))
        self.check(Chain(turn, main("right", "while at b", "  right", "while at b", "  write x", "left")))

    def test_one_symbol_more_leads_to_the_same_class(self):
        rnd = random.Random(3)
        for machine in random_machines(range(60, 78)):
            for _ in range(10):
                text = "".join(rnd.choice(machine.symbols) for _ in range(rnd.randint(0, 30)))
                for symbol in machine.symbols:
                    least = prefix_of(machine, text)
                    self.assertEqual(prefix_of(machine, text + symbol), prefix_of(machine, least + symbol))
                    least = suffix_of(machine, text)
                    self.assertEqual(suffix_of(machine, symbol + text), suffix_of(machine, symbol + least))

    def test_a_least_text_in_the_place_of_another_one(self):
        rnd = random.Random(4)
        for machine in random_machines(range(90, 130)):
            for _ in range(10):
                head, tail = ["".join(rnd.choice(machine.symbols) for _ in range(rnd.randint(0, 9))) for _ in "12"]
                whole = head + tail
                at = len(head)
                least = prefix_of(machine, head)
                self.assertEqual(run(machine, whole)[0], run(machine, least + tail)[0])
                self.assertEqual(traces(machine, whole)[at + 1:], traces(machine, least + tail)[len(least) + 1:])
                least = suffix_of(machine, tail)
                self.assertEqual(run(machine, whole)[0], run(machine, head + least)[0])
                self.assertEqual(traces(machine, whole)[:at + 1], traces(machine, head + least)[:at + 1])

    def test_the_least_texts_are_their_own(self):
        for machine in random_machines(range(130, 160)):
            self.assertEqual(tuple(prefix_of(machine, text) for text in prefixes(machine)), prefixes(machine))
            self.assertEqual(tuple(suffix_of(machine, text) for text in suffixes(machine)), suffixes(machine))


class LimitsTest(unittest.TestCase):
    def test_sixty_classes_are_not_too_many(self):
        self.assertEqual(len(suffixes(Program(SIXTY_SUFFIXES))), 60)
        self.assertEqual(len(prefixes(Program(SIXTY_SUFFIXES))), 10)
        self.assertEqual(len(prefixes(chain_of(SIXTY_PREFIXES))), 60)
        self.assertEqual(len(suffixes(chain_of(SIXTY_PREFIXES))), 12)

    def test_more_than_sixty_classes_on_one_side_are(self):
        for machine in [Program(ONE_SUFFIX_MORE), Program(MANY_PREFIXES), chain_of(ONE_PREFIX_MORE)]:
            for call in (prefixes, suffixes):
                with self.assertRaises(TooMany) as caught:
                    call(machine)
                self.assertEqual(caught.exception.value, 60)

    def test_too_many_comes_ahead_of_bad_text(self):
        for machine in [Program(ONE_SUFFIX_MORE), Program(MANY_PREFIXES), chain_of(ONE_PREFIX_MORE)]:
            for call in (prefix_of, suffix_of):
                for text in ("", "a", "?", 1, None, []):
                    with self.assertRaises(TooMany) as caught:
                        call(machine, text)
                    self.assertEqual(caught.exception.value, 60)

    def test_bad_text(self):
        for machine in (Program(LAST), Chain(Program(TURN), Program(TURN))):
            for value in [*NO_STRINGS, "c", "ab ", "<"]:
                kept = copy.deepcopy(value)
                for call in (prefix_of, suffix_of):
                    with self.assertRaises(BadText) as caught:
                        call(machine, value)
                    self.assertIs(caught.exception.value, value)
                    self.assertEqual(value, kept)

    def test_names_of_the_parameters(self):
        last = Program(LAST)
        self.assertEqual((prefixes(machine=last), suffixes(machine=last)), (("",), ("", "a", "b")))
        self.assertEqual((prefix_of(text="ab", machine=last), suffix_of(text="ab", machine=last)), ("", "b"))
        self.assertEqual(suffix_of(last, "ab"), suffix_of(last, "ab"))
