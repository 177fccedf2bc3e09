"""Section 8: how many passes all texts need."""

import copy
import itertools
import random
import unittest

from fewgoings.chains import Chain
from fewgoings.classes import prefixes, suffixes
from fewgoings.errors import BadNumber, BadText, OtherSymbols, TooMany
from fewgoings.needing import nearest, needs, shows_needs
from fewgoings.passes import passes
from fewgoings.programs import Program
from fewgoings.runs import run
from tests.brute import Keys, all_texts, cost_at, least_by, output_on, trace_at
from tests.judges import Judge
from tests.machines import COPY, NEVER, chain_of, main
from tests.randoms import Maker, Sweeper
from tests.samples import (
    LAST, LOOP_AT_B, MANY_PREFIXES, NO_STRINGS, ONE_PREFIX_MORE, ONE_SUFFIX_MORE, SIXTY_PREFIXES, SIXTY_SUFFIXES,
    TURN, TWICE,
)

SILENT = main("while not at >", "  right")
ENDS_WITHOUT_B = main("while not at b>", "  right", "while at b", "  left", "  right")
ODD_LENGTH = main("while not at >", "  add n 1", "  right", "while n = 1", "  write x", head=["cell n 1"])


def is_small(*machines):
    try:
        needs(machines[0], within=machines[-1])
    except TooMany:
        return False
    return True


def random_machines(seeds):
    """Machines of all kinds that have few enough classes."""
    for seed in seeds:
        made = [Program(Sweeper(seed).program())]
        if seed % 3 == 0:
            made.append(Program(Maker(seed).program()))
        maker = Sweeper(seed)
        try:
            made.append(Chain(Program(maker.program(letters="ab")), Program(maker.program("ab"))))
        except OtherSymbols:
            pass
        yield from [machine for machine in made if is_small(machine)]


def random_pairs(seeds):
    """(machine, within), the second one None for half of them."""
    for at, machine in enumerate(random_machines(seeds)):
        within = Program(Sweeper(at + 10 ** 6).program(machine.symbols)) if at % 2 else None
        yield (machine, within) if within is None or is_small(machine, within) else (machine, None)


def short_texts(machine):
    return all_texts(machine.symbols, {2: 6, 3: 4, 4: 3}[len(machine.symbols)])


def counted(machine, within):
    """All short texts that count."""
    machines = [machine] if within is None else [machine, within]
    return [text for text in short_texts(machine) if all(run(each, text)[0] == "done" for each in machines)]


class NeedsTest(unittest.TestCase):
    def check(self, machine, within=None, turns=False):
        """Compares with the passes of all short texts; returns what is found."""
        found = needs(machine, within=within, turns=turns)
        self.assertTrue(shows_needs(machine, found, within=within, turns=turns))
        texts = counted(machine, within)
        if found is None:
            self.assertEqual(texts, [])
        elif found[0] == "endless":
            self.check_ring(machine, within, turns, *found[1:])
        else:
            self.check_needed(machine, within, turns, *found[1:], texts)
        return found

    def check_ring(self, machine, within, turns, ahead, ring, behind):
        repeated = [ahead + ring * times + behind for times in (1, 2, 3, 4)]
        for text in repeated:
            self.assertEqual(run(machine, text)[0], "done")
            self.assertTrue(within is None or run(within, text)[0] == "done")
        many = [len(passes(machine, text, turns=turns)) for text in repeated]
        self.assertGreater(many[1], many[0])
        self.assertEqual(many[1] - many[0], many[3] - many[2])
        self.assertEqual(many[1] - many[0], many[2] - many[1])

    def check_needed(self, machine, within, turns, many, text, heights, texts):
        self.assertEqual(len(passes(machine, text, turns=turns)), many)
        numbers = [len(passes(machine, other, turns=turns)) for other in texts]
        self.assertLessEqual(max(numbers, default=0), many)
        if many in numbers:
            self.assertEqual(text, texts[numbers.index(many)])
        else:
            self.assertGreater(len(text), len(short_texts(machine)[-1]))
        self.check_heights(machine, within, turns, {row[:2]: row[2] for row in heights}, texts)
        self.assertEqual(heights, tuple(sorted(heights)))

    def check_heights(self, machine, within, turns, heights, texts):
        """Compares with the sums of the costs up to each gap of each short text."""
        keys = [Keys(each) for each in ([machine] if within is None else [machine, within])]
        every = short_texts(machine)
        heads = {text: tuple(key.prefix(text) for key in keys) for text in every}
        tails = {text: tuple(key.suffix(text) for key in keys) for text in every}
        least_heads, least_tails = least_by(heads.get, every), least_by(tails.get, every)
        highest = {}
        for text in texts:
            output = output_on(machine, text)
            height = 0
            for at in range(len(text) + 1):
                height += cost_at(trace_at(output, at), turns)
                pair = (least_heads[heads[text[:at]]], least_tails[tails[text[at:]]])
                highest[pair] = max(highest.get(pair, 0), height)
        for pair, height in highest.items():
            self.assertGreaterEqual(heights[pair], height)
        for pair, height in heights.items():
            if len(pair[0] + pair[1]) <= 1:
                self.assertIn(pair, highest)

    def test_the_examples_of_the_document(self):
        turn, twice, last = Program(TURN), Program(TWICE), Program(LAST)
        self.assertEqual([needs(twice)[:3], needs(turn)[0], shows_needs(turn, ("endless", "a", "a", "a"))],
                         [("needs", 2, "aa"), "endless", True])
        self.assertEqual([needs(last), nearest(Program(LOOP_AT_B), "bb", 0)],
                         [("needs", 1, "", (("", "", 0), ("", "a", 0), ("", "b", 0))), (1, "ab")])

    def test_the_whole_table(self):
        self.assertEqual(needs(Program(TWICE)),
                         ("needs", 2, "aa", (("", "", 0), ("", "a", 0), ("a", "", 1), ("a", "a", 1))))
        self.assertEqual(needs(Program(TURN), turns=True),
                         ("needs", 2, "aa", (("", "", 0), ("", "a", 0), ("a", "", 1), ("a", "a", 0))))

    def test_random_machines(self):
        kinds = {}
        for machine, within in random_pairs(range(33)):
            for turns in (False, True):
                found = self.check(machine, within, turns)
                kinds[turns, None if found is None else found[:2] if found[0] == "needs" else "endless"] = True
        for many in (0, 1):
            self.assertIn((False, ("needs", many)), kinds)
        for many in (0, 1, 2, 3):
            self.assertIn((True, ("needs", many)), kinds)
        self.assertIn((False, "endless"), kinds)

    def test_samples(self):
        turn, twice = Program(TURN), Program(TWICE)
        for machine in [turn, twice, Program(LAST), Program(LOOP_AT_B), Chain(turn, turn), Chain(twice, turn),
                        Chain(turn, twice), Chain(turn, Program(LOOP_AT_B)), Program(SIXTY_SUFFIXES)]:
            for turns in (False, True):
                self.check(machine, None, turns)

    def test_no_text_counts(self):
        self.assertIsNone(needs(NEVER))
        self.assertIsNone(needs(COPY, within=NEVER))
        self.assertIsNone(needs(ENDS_WITHOUT_B, within=main("while not at b>", "  right", "while at >", "  write x")))
        self.assertIsNone(needs(Chain(COPY, NEVER)))

    def test_runs_that_go_to_and_fro_for_ever(self):
        steps = main("while not at b", "  right", "  left")
        sweeps = main("right", "while at a", "  while not at >", "    right", "  while not at <", "    left", "  right")
        for other in (steps, main("while not at b>", "  right", "  left")):
            self.assertIsNone(needs(other))
            self.assertIsNone(needs(Chain(COPY, other)))
        for machine in (sweeps, Chain(COPY, sweeps), Chain(sweeps, COPY), Chain(Program(TURN), sweeps)):
            for turns in (False, True):
                self.assertEqual(self.check(machine, None, turns)[:3], ("needs", 0, ""))
        self.assertEqual(nearest(Chain(COPY, sweeps), "aab", 0), (1, "bab"))
        self.assertEqual(nearest(Chain(Program(TURN), sweeps), "aba", 0), (1, "abb"))

    def test_none_and_one(self):
        self.assertEqual(needs(SILENT)[:3], ("needs", 0, ""))
        self.assertEqual(needs(COPY)[:3], ("needs", 1, "a"))
        self.assertEqual(needs(main("write x"))[:3], ("needs", 1, ""))
        self.assertEqual(needs(main("while not at b>", "  right", "if at b", "  write x"))[:3], ("needs", 1, "b"))
        # What is written in runs that do not end does not count.
        self.assertEqual(needs(Program(LOOP_AT_B))[:3], ("needs", 0, ""))

    def test_the_right_mark_and_the_left_one_cost_too(self):
        program = main("while not at >", "  right", "write x", "while not at <", "  left", "write y",
                       "while not at >", "  right", "write z", "left", "write w")
        self.assertEqual(needs(program)[:3], ("needs", 3, ""))
        self.assertEqual(needs(program, turns=True)[:3], ("needs", 4, ""))
        self.check(program)
        self.check(program, turns=True)

    def test_within(self):
        turn = Program(TURN)
        self.assertEqual(needs(turn)[0], "endless")
        short = main("right", "right", "right", "while not at >", "  write x")
        self.assertEqual(needs(turn, within=short)[:3], ("needs", 2, "aa"))
        self.assertEqual(needs(turn, within=ENDS_WITHOUT_B)[0], "endless")
        self.assertEqual(self.check(turn, ODD_LENGTH)[0], "endless")
        self.assertEqual(needs(COPY, within=Program(LOOP_AT_B))[:3], ("needs", 1, "a"))
        only_b = main("right", "while at a>", "  write x")
        self.assertEqual(needs(COPY, within=only_b)[:3], ("needs", 1, "b"))
        self.assertEqual(needs(COPY, within=Chain(COPY, only_b))[:3], ("needs", 1, "b"))
        for machine, within in [(turn, short), (turn, only_b), (Program(TWICE), ODD_LENGTH), (Chain(turn, turn), only_b)]:
            for turns in (False, True):
                self.check(machine, within, turns)

    def test_a_ring_of_several_symbols(self):
        turn = Program(TURN.replace("symbols ab", "symbols abc"))
        # Ends on the texts abcabc.. and their beginnings alone.
        loops = [line for at, others in enumerate(["bc", "ac", "ab"])
                 for line in (f"  if n = {at}", f"    while at {others}", "      write x")]
        within = main("right", "while not at >", *loops, "  add n 1", "  right", head=["cell n 2"], symbols="abc")
        for machine in (turn, Chain(turn, Program(TURN.replace("symbols ab", "symbols abcd")))):
            found = self.check(machine, within)
            if machine == turn:
                self.assertEqual((found[0], sorted(found[2])), ("endless", ["a", "b", "c"]))
        ahead, ring, behind = needs(turn, within=within)[1:]
        self.assertEqual(ahead + ring + behind, ("abc" * 9)[:len(ahead + ring + behind)])

    def test_other_symbols(self):
        turn = Program(TURN)
        other = main("right", symbols="abc")
        for within in (other, Chain(other, main("copy", symbols="abc")), main("right", symbols="ac")):
            for call in (lambda: needs(turn, within=within), lambda: shows_needs(turn, None, within=within)):
                with self.assertRaises(OtherSymbols) as caught:
                    call()
                self.assertIs(caught.exception.value, within)
        self.assertEqual(needs(turn, within=Chain(turn, other))[0], "endless")

    def test_other_symbols_come_ahead_of_too_many(self):
        for machine in (Program(ONE_SUFFIX_MORE), Program(MANY_PREFIXES)):
            within = main("right", symbols="xyz")
            for call in (lambda: needs(machine, within=within), lambda: shows_needs(machine, 5, within=within)):
                with self.assertRaises(OtherSymbols) as caught:
                    call()
                self.assertIs(caught.exception.value, within)

    def test_too_many(self):
        for machine in (Program(ONE_SUFFIX_MORE), Program(MANY_PREFIXES), chain_of(ONE_PREFIX_MORE)):
            for call in (lambda: needs(machine), lambda: needs(machine, turns=True),
                         lambda: needs(main("right", symbols=machine.symbols), within=machine),
                         lambda: shows_needs(machine, None), lambda: shows_needs(machine, "?", turns=True)):
                with self.assertRaises(TooMany) as caught:
                    call()
                self.assertEqual(caught.exception.value, 60)
        needs(Program(SIXTY_SUFFIXES))
        needs(chain_of(SIXTY_PREFIXES))

    def test_too_many_joint_classes(self):
        machine = Program(SIXTY_SUFFIXES)
        counting = main("while not at >", "  add n 1", "  right", "while n = 2", "  left", head=["cell n 2"],
                        symbols="abyz")
        self.assertEqual((len(suffixes(counting)), len(prefixes(counting))), (3, 3))
        with self.assertRaises(TooMany) as caught:
            needs(machine, within=counting)
        self.assertEqual(caught.exception.value, 60)
        self.assertEqual(needs(machine, within=machine)[1:3], needs(machine)[1:3])

    def test_names_of_the_parameters(self):
        turn = Program(TURN)
        self.assertEqual(needs(machine=turn, within=None, turns=True), needs(turn, turns=True))
        self.assertTrue(shows_needs(machine=turn, value=needs(turn, within=turn), within=turn, turns=False))
        self.assertEqual(nearest(machine=turn, text="ab", most=2, turns=False), (0, "ab"))
        for call in (lambda: needs(turn, turn), lambda: shows_needs(turn, None, None), lambda: nearest(turn, "a", 1, True)):
            with self.assertRaises(TypeError):
                call()


def changed_rows(rnd, rows, judge, symbols):
    """Rows of a table after one change."""
    rows = list(rows)
    at = rnd.randrange(len(rows))
    prefix, suffix, height = rows[at]
    extra = "".join(rnd.choice(symbols) for _ in range(rnd.randint(1, 3)))
    change = rnd.randrange(9)
    if change == 0:
        del rows[at]
    elif change == 1:
        rows[at] = (prefix, suffix, height - 1)
    elif change == 2:
        rows[at] = (prefix, suffix, height + 1)
    elif change == 3:
        rows[at] = (prefix + extra, suffix, height)
    elif change == 4:
        rows[at] = (prefix, extra + suffix, height)
    elif change == 5:
        same = [text for text in all_texts(symbols, 3) if judge.prefix(text) == judge.prefix(prefix)]
        rows[at] = (rnd.choice(same) if same else prefix, suffix, height)
    elif change == 6:
        same = [text for text in all_texts(symbols, 3) if judge.suffix(text) == judge.suffix(suffix)]
        rows.append((prefix, rnd.choice(same) if same else suffix, height - rnd.randint(0, 2)))
    elif change == 7:
        rows.append((extra, rnd.choice(["", extra]), rnd.choice([-5, 0, 0, 1])))
    else:
        rows.append((prefix, suffix, height - rnd.randint(0, 1)))
        return tuple(rows if rnd.random() < 0.3 else sorted(rows))
    return tuple(sorted(set(rows)))


class ShowsNeedsTest(unittest.TestCase):
    def test_changed_tables_beside_an_own_reading(self):
        rnd = random.Random(5)
        found = {True: 0, False: 0}
        for machine, within in random_pairs(range(200, 260)):
            for turns in (False, True):
                value = needs(machine, within=within, turns=turns)
                if value is None or value[0] == "endless" or len(value[3]) > 12:
                    continue
                judge = Judge(machine, within, turns)
                for _ in range(12):
                    rows = value[3]
                    for _ in range(rnd.randint(1, 2)):
                        rows = changed_rows(rnd, rows, judge, machine.symbols) if rows else rows
                    text = value[2] + rnd.choice(["", "", "", machine.symbols[0]])
                    many = value[1] + rnd.choice([0, 0, 0, 0, 0, 1, -1])
                    other = ("needs", many, text, rows)
                    expected = judge.shows(other)
                    self.assertEqual(shows_needs(machine, other, within=within, turns=turns), expected, other)
                    found[expected] += 1
        self.assertGreater(min(found.values()), 100)

    def test_changed_rings_beside_an_own_reading(self):
        rnd = random.Random(6)
        found = {True: 0, False: 0}
        for machine, within in random_pairs(range(260, 300)):
            for turns in (False, True):
                value = needs(machine, within=within, turns=turns)
                judge = Judge(machine, within, turns)
                for _ in range(12):
                    texts = list(value[1:]) if value and value[0] == "endless" else ["", machine.symbols[0], ""]
                    at = rnd.randrange(3)
                    extra = "".join(rnd.choice(machine.symbols) for _ in range(rnd.randint(0, 3)))
                    texts[at] = rnd.choice([texts[at] + extra, extra + texts[at], texts[at] * 2, extra])
                    other = ("endless", *texts)
                    expected = judge.shows(other)
                    self.assertEqual(shows_needs(machine, other, within=within, turns=turns), expected, other)
                    found[expected] += 1
        self.assertGreater(min(found.values()), 50)

    def test_none(self):
        self.assertTrue(shows_needs(NEVER, None))
        self.assertFalse(shows_needs(COPY, None))
        self.assertTrue(shows_needs(COPY, None, within=NEVER))
        self.assertFalse(shows_needs(NEVER, ("needs", 0, "", ())))
        self.assertFalse(shows_needs(NEVER, ("endless", "", "a", "")))

    def test_any_text_that_needs_the_number(self):
        table = needs(Program(TWICE))[3]
        for text, many, expected in [("ba", 2, True), ("abab", 2, True), ("a", 2, False), ("", 2, False),
                                     ("a", 1, False), ("", 0, False), ("ab", 3, False)]:
            self.assertEqual(shows_needs(Program(TWICE), ("needs", many, text, table)), expected)

    def test_a_text_must_count(self):
        program = Program(LOOP_AT_B)
        _, many, text, table = needs(program)
        self.assertEqual((many, text), (0, ""))
        self.assertTrue(shows_needs(program, ("needs", 0, "ab", table)))
        self.assertFalse(shows_needs(program, ("needs", 0, "ba", table)))
        _, many, _, table = needs(COPY, within=program)
        self.assertTrue(shows_needs(COPY, ("needs", many, "a", table), within=program))
        self.assertFalse(shows_needs(COPY, ("needs", many, "b", table), within=program))

    def test_other_tables(self):
        twice = Program(TWICE)
        table = (("", "", 0), ("", "a", 0), ("a", "", 1), ("a", "a", 1))

        def is_shown(*rows):
            return shows_needs(twice, ("needs", 2, "aa", rows))

        self.assertTrue(is_shown(*table))
        self.assertTrue(is_shown(("", "", 0), ("", "bb", 0), ("a", "aaa", 1), ("abb", "", 1)))
        self.assertTrue(is_shown(("", "", 1), ("", "a", 0), ("a", "", 1), ("a", "a", 1)))
        self.assertTrue(is_shown(("", "", -3), *table))
        self.assertTrue(is_shown(*table, ("b", "", 1), ("b", "b", 0)))
        for at in range(4):
            self.assertFalse(is_shown(*table[:at], *table[at + 1:]))
            prefix, suffix, height = table[at]
            self.assertFalse(is_shown(*table[:at], (prefix, suffix, height - 1), *table[at + 1:]))
            if (prefix, suffix) != ("", ""):
                self.assertFalse(is_shown(*table[:at], (prefix, suffix, height + 1), *table[at + 1:]))
        self.assertFalse(is_shown(*table[::-1]))
        self.assertFalse(is_shown(*table, table[-1]))
        self.assertFalse(is_shown(table[0], table[0], *table[1:]))
        self.assertFalse(is_shown(*table, ("b", "", 2)))

    def test_nothing_written_instead_of_small_heights(self):
        table = (("", "", 0),)
        self.assertTrue(shows_needs(SILENT, ("needs", 0, "abba", table)))
        self.assertTrue(shows_needs(SILENT, ("needs", 0, "", (("", "", 7),))))
        self.assertFalse(shows_needs(main("write x"), ("needs", 0, "", table)))
        # A table may look at texts that do not count; what is written there counts against it.
        program = main("while not at >", "  if at b", "    write x", "  right")
        within = main("while not at b>", "  right", "while at b", "  write x")
        _, many, _, table = needs(program, within=within)
        self.assertEqual(many, 0)
        self.assertTrue(shows_needs(program, ("needs", 0, "", table), within=within))
        more = tuple(sorted([*table, ("", "b", 0)]))
        self.assertFalse(shows_needs(program, ("needs", 0, "", more), within=within))
        # The right mark of a text is looked at only where nothing follows: here on texts of odd length.
        even = main("while not at >", "  add n 1", "  right", "if n = 1", "  write x", head=["cell n 1"])
        found = needs(even, within=ODD_LENGTH)
        self.assertEqual(found[:3], ("needs", 0, "a"))
        self.assertTrue(shows_needs(even, found, within=ODD_LENGTH))
        self.assertTrue(Judge(even, ODD_LENGTH, False).shows(found))
        # Here it is written at the right mark alone.
        program = main("while not at >", "  if at b", "    set n 1", "  right", "if n = 1", "  write x", head=["cell n 1"])
        _, many, _, table = needs(program, within=within)
        self.assertEqual((many, table), (0, (("", "", 0),)))
        more = (("", "", 0), ("b", "", 0))
        self.assertFalse(shows_needs(program, ("needs", 0, "", more), within=within))
        self.assertFalse(Judge(program, within, False).is_table(more, 0))
        self.assertTrue(shows_needs(main("while not at >", "  right"), ("needs", 0, "", more), within=within))

    def test_rows_of_other_kinds(self):
        table = (("", "", 0), ("", "a", 0), ("a", "", 0), ("a", "a", 0))
        self.assertTrue(shows_needs(COPY, ("needs", 1, "a", table)))
        last = ("a", "a", 0)
        for row in [("a", "a", False), ("a", "a"), ["a", "a", 0], ("a", "a", 0, 0), ("a", "c", 0), ("A", "a", 0),
                    ("a", None, 0), (1, "a", 0), ("a", "a", "0"), ("a", "a", None), "aa0", None, 5, {}]:
            self.assertFalse(shows_needs(COPY, ("needs", 1, "a", (*table[:3], row))), row)
            self.assertFalse(shows_needs(COPY, ("needs", 1, "a", (*table, row))), row)
        self.assertFalse(shows_needs(COPY, ("needs", 1, "a", list(table))))
        self.assertFalse(shows_needs(COPY, ("needs", 1, "a", [*table[:3], last])))

    def test_other_numbers_and_texts(self):
        table = needs(COPY)[3]
        for many in (True, 1 + 10 ** 30, -1, 0, 2, None, "1", (1,), [1]):
            self.assertFalse(shows_needs(COPY, ("needs", many, "a", table)), many)
        for text in ("c", None, 0, ("a",), ["a"], "a ", "<"):
            self.assertFalse(shows_needs(COPY, ("needs", 1, text, table)), text)
        self.assertFalse(shows_needs(SILENT, ("needs", False, "", (("", "", 0),))))

    def test_other_words_in_front(self):
        table = needs(COPY)[3]
        for word in ("need", "Needs", "endless", "", None, 0, ("needs",), ["needs"]):
            self.assertFalse(shows_needs(COPY, (word, 1, "a", table)), word)
            self.assertFalse(shows_needs(Program(TURN), (word if word != "endless" else "ring", "a", "a", "a")), word)

    def test_rings(self):
        turn = Program(TURN)
        for texts, expected in [
            (("a", "a", "a"), True), (("ab", "ba", "b"), True), (("a", "", "a"), False), (("", "a", "a"), False),
            (("a", "a", ""), False), (("a", "c", "a"), False), (("a", None, "a"), False), (("a", ["a"], "a"), False),
            ((("a",), "a", "a"), False), (("a", "a", 1), False),
        ]:
            self.assertEqual(shows_needs(turn, ("endless", *texts)), expected, texts)
        for texts in itertools.product(("", "a", "ab"), repeat=3):
            self.assertFalse(shows_needs(turn, ("endless", *texts), turns=True))
            self.assertFalse(shows_needs(Program(TWICE), ("endless", *texts)))

    def test_a_ring_of_texts_that_do_not_count(self):
        turn = Program(TURN)
        within = main("while not at b>", "  right", "while at b", "  write x")
        self.assertTrue(shows_needs(turn, ("endless", "a", "a", "a"), within=within))
        self.assertFalse(shows_needs(turn, ("endless", "b", "b", "b"), within=within))
        self.assertTrue(shows_needs(turn, ("endless", "b", "b", "b")))

    def test_any_value(self):
        values = [
            "", "needs", "endless", ("needs",), ("endless",), ("needs", 1, "a"), ("needs", 1, "a", (), ()),
            ("endless", "a", "a"), ("endless", "a", "a", "a", "a"), ["endless", "a", "a", "a"], (None,) * 4,
            ({}, "a", "a", "a"), ([], 1, "a", ()), ("Endless", "a", "a", "a"), ("none", 1, "a", ()), ("needs", 1, "a", None),
            ("needs", 1, "a", ((),)), ("needs", 1, "a", "aa"), *NO_STRINGS,
        ]
        for machine in (Program(TURN), Chain(COPY, COPY)):
            for value in values:
                if value is None:
                    continue
                kept = copy.deepcopy(value)
                self.assertIs(shows_needs(machine, value), False)
                self.assertIs(shows_needs(machine, value, turns=True), False)
                self.assertEqual(value, kept)

    def test_ways_of_counting_and_machines_within_do_not_mix(self):
        turn = Program(TURN)
        self.assertFalse(shows_needs(turn, needs(turn), turns=True))
        self.assertFalse(shows_needs(turn, needs(turn, turns=True)))
        self.assertTrue(shows_needs(turn, needs(turn, turns=True), turns=True))


class NearestTest(unittest.TestCase):
    def check(self, machine, text, most, turns):
        """Compares with all texts of the same length; returns what is found."""
        rows = []
        for signs in itertools.product(machine.symbols, repeat=len(text)):
            other = "".join(signs)
            if run(machine, other)[0] == "done" and len(passes(machine, other, turns=turns)) <= most:
                rows.append((sum(one != two for one, two in zip(text, other)), other))
        found = nearest(machine, text, most, turns=turns)
        self.assertEqual(found, min(rows, default=None))
        return found

    def test_random_machines(self):
        rnd = random.Random(7)
        kinds = {}
        for machine in random_machines(range(300, 345)):
            for length in (0, 1, 2, {2: 5, 3: 3, 4: 3}[len(machine.symbols)]):
                text = "".join(rnd.choice(machine.symbols) for _ in range(length))
                most = rnd.choice([0, 1, 2, 3])
                for turns in (False, True):
                    found = self.check(machine, text, most, turns)
                    kinds[found and min(found[0], 2)] = kinds.get(found and min(found[0], 2), 0) + 1
        self.assertLessEqual({None, 0, 1, 2}, set(kinds))

    def test_turn(self):
        program = main("while not at >", "  right", "while not at <", "  left", "  if at a", "    copy")
        self.assertEqual(nearest(program, "aabaa", 2), (2, "aabbb"))
        self.assertEqual(nearest(program, "aabaa", 4), (0, "aabaa"))
        self.assertEqual(nearest(program, "bbb", 0), (0, "bbb"))
        for most in range(5):
            self.check(program, "aabaa", most, False)
            self.check(program, "aabaa", most, True)

    def test_most_zero(self):
        self.assertEqual(nearest(Program(LOOP_AT_B), "bb", 0), (1, "ab"))
        self.assertIsNone(nearest(COPY, "ab", 0))
        self.assertEqual(nearest(COPY, "", 0), (0, ""))
        self.assertIsNone(nearest(main("write x"), "", 0))
        self.assertEqual(nearest(main("while not at >", "  if at a", "    copy", "  right"), "abaa", 0), (3, "bbbb"))

    def test_no_such_text(self):
        self.assertIsNone(nearest(NEVER, "ab", 100))
        self.assertIsNone(nearest(Program(TURN), "abab", 3))
        self.assertEqual(nearest(Program(TURN), "abab", 4), (0, "abab"))
        self.assertIsNone(nearest(Program(TURN), "abab", 1, turns=True))
        self.assertEqual(nearest(Program(TURN), "abab", 2, turns=True), (0, "abab"))
        self.assertIsNone(nearest(ODD_LENGTH, "ab", 100))

    def test_the_least_of_the_nearest(self):
        program = main("right", "right", "while not at b", "  write x", symbols="abc")
        self.assertEqual(nearest(program, "cac", 0), (1, "cbc"))
        two = main("while not at b>", "  right", "while at >", "  write x", symbols="abc")
        self.assertEqual(nearest(two, "aca", 100), (1, "aba"))
        self.assertEqual(nearest(two, "acc", 100), (1, "abc"))

    def test_long_texts(self):
        program = main("while not at >", "  right", "while not at <", "  left", "  if at a", "    copy")
        text = "ab" * 50
        self.assertEqual(nearest(program, text, 50), (0, text))
        changes, other = nearest(program, text, 20)
        self.assertEqual((changes, other), (30, "ab" * 20 + "b" * 60))
        self.assertEqual(len(passes(program, other)), 20)

    def test_bad_text_then_bad_number(self):
        turn = Program(TURN)
        for value in [*NO_STRINGS, "c", "ab "]:
            kept = copy.deepcopy(value)
            for most in (0, -1, None):
                with self.assertRaises(BadText) as caught:
                    nearest(turn, value, most)
                self.assertIs(caught.exception.value, value)
                self.assertEqual(value, kept)

    def test_bad_number(self):
        turn = Program(TURN)
        for value in [True, False, -1, 101, 10 ** 30, None, "", "1", "ab", (), (1,), [], [1], {}, {1: 2}, *NO_STRINGS]:
            if not isinstance(value, bool) and value in (0, 1, 3):
                continue
            kept = copy.deepcopy(value)
            for turns in (False, True):
                with self.assertRaises(BadNumber) as caught:
                    nearest(turn, "ab", value, turns=turns)
                self.assertIs(caught.exception.value, value)
                self.assertEqual(value, kept)
        self.assertEqual(nearest(turn, "ab", 100), (0, "ab"))
        self.assertIsNone(nearest(turn, "ab", 0))

    def test_too_many_comes_first(self):
        for machine in (Program(ONE_SUFFIX_MORE), Program(MANY_PREFIXES), chain_of(ONE_PREFIX_MORE)):
            for text, most in [("", 0), ("?", 0), (None, None), ("", True)]:
                with self.assertRaises(TooMany) as caught:
                    nearest(machine, text, most)
                self.assertEqual(caught.exception.value, 60)
