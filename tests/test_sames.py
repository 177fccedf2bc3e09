"""Section 12: machines that do the same, and statements that can be left out."""

import copy
import random
import unittest

from fewgoings.chains import Chain
from fewgoings.classes import prefixes, suffixes
from fewgoings.errors import BadProgram, OtherSymbols, TooMany
from fewgoings.programs import Program
from fewgoings.runs import run
from fewgoings.sames import lean, same, shows_same
from tests.brute import Keys, all_texts, in_text_order, least_by, output_on, trace_at
from tests.judges import closure
from tests.machines import COPY, NEVER, chain_of, main
from tests.randoms import Maker, Sweeper
from tests.samples import (
    LAST, LOOP_AT_B, MANY_PREFIXES, NEXT, NO_STRINGS, ONE_PREFIX_MORE, ONE_SUFFIX_MORE, SIXTY_PREFIXES, SIXTY_SUFFIXES,
    THREE_BACK, TURN, TWICE,
)

THIRD = main("while not at >", "  if at a", "    copy", "  right")


def is_other(one, other, text):
    return run(one, text)[0] != run(other, text)[0] or output_on(one, text) != output_on(other, text)


class Joint:
    """Joint classes of two machines, and their traces, on explicit texts."""

    def __init__(self, one, other):
        self.machines = [one, other]
        self.symbols = one.symbols
        keys = [Keys(one), Keys(other)]
        self.known = {}
        self.prefix = lambda text: self.remembered("p", text, lambda: tuple(key.prefix(text) for key in keys))
        self.suffix = lambda text: self.remembered("s", text, lambda: tuple(key.suffix(text) for key in keys))

    def remembered(self, kind, text, found):
        if (kind, text) not in self.known:
            self.known[kind, text] = found()
        return self.known[kind, text]

    def looks_same(self, text, position):
        """Whether both runs have the same outcome, and a position the same trace; no position is None."""
        outputs = self.remembered("o", text, lambda: [output_on(machine, text) for machine in self.machines])
        outcomes = self.remembered("r", text, lambda: [run(machine, text)[0] for machine in self.machines])
        if outcomes[0] != outcomes[1]:
            return False
        return position is None or trace_at(outputs[0], position) == trace_at(outputs[1], position)

    def is_closed(self, key, texts, longer):
        known = {key(text) for text in texts}
        return key("") in known and all(
            key(longer(text, symbol)) in known for text in texts for symbol in self.symbols)

    def shows(self, heads, tails):
        """What the document asks of two tuples of texts."""
        if not self.is_closed(self.prefix, heads, lambda text, symbol: text + symbol):
            return False
        if not self.is_closed(self.suffix, tails, lambda text, symbol: symbol + text):
            return False
        return (
            all(self.looks_same(tail, 0) for tail in tails)
            and all(self.looks_same(head, len(head) + 1) for head in heads)
            and all(self.looks_same(head + tail, None) for head in heads for tail in tails)
            and all(self.looks_same(head + symbol + tail, len(head) + 1)
                    for head in heads for symbol in self.symbols for tail in tails)
        )


def same_or_none(one, other):
    try:
        return same(one, other)
    except TooMany:
        return None


def varied(rnd, text):
    """The text of a program with one statement changed, put in or left out, if it is a program."""
    while True:
        lines = text.split("\n")
        at = rnd.randrange(lines.index("main") + 1, len(lines))
        depth = " " * (len(lines[at]) - len(lines[at].lstrip(" ")))
        change = rnd.randrange(4)
        if change == 0:
            lines.insert(at, depth + rnd.choice(["copy", "write a", "left", "stop", "right"]))
        elif change == 1:
            lines[at:at] = [depth + "if at <", depth + rnd.choice(["  copy", "  left", "  stop"])]
        elif change == 2:
            del lines[at]
        else:
            lines[at] = depth + rnd.choice(["copy", "right", "left", "if at a", "while not at >"])
        try:
            return Program("\n".join(lines)).text
        except BadProgram:
            continue


def random_pairs(seeds):
    """Two machines that may do the same."""
    for seed in seeds:
        rnd = random.Random(seed)
        made = Sweeper(seed)
        text = made.program("ab" if seed % 2 else "")
        one = Program(text)
        yield one, Program(varied(rnd, text))
        yield one, Program(varied(rnd, varied(rnd, text)))
        copies = main("while not at >", "  copy", "  right", symbols=one.symbols)
        yield Chain(copies, one), one
        yield one, Chain(copies, Program(varied(rnd, text)))
        if seed % 3 == 0:
            text = Maker(seed).program()
            yield Program(text), Program(varied(rnd, text))
        inner = Program(Sweeper(seed).program(letters="ab"))
        other = Sweeper(seed + 1).program("ab")
        if set(inner.letters) <= set("ab"):
            yield Chain(inner, Program(other)), Chain(inner, Program(varied(rnd, other)))


class SameTest(unittest.TestCase):
    def check(self, one, other, found):
        """Compares with all short texts; returns the word of what same returned."""
        texts = all_texts(one.symbols, {2: 6, 3: 4, 4: 3}[len(one.symbols)])
        others = [text for text in texts if is_other(one, other, text)]
        if found[0] == "other":
            self.assertTrue(is_other(one, other, found[1]))
            self.assertEqual([found[1]] if found[1] in texts else [], others[:1])
        else:
            self.assertEqual((found[0], others), ("same", []))
            joint = Joint(one, other)
            for rows, key, longer in [(found[1], joint.prefix, lambda text, symbol: text + symbol),
                                      (found[2], joint.suffix, lambda text, symbol: symbol + text)]:
                self.assertIs(type(rows), tuple)
                self.assertEqual(list(rows), in_text_order(rows))
                self.assertEqual(sorted(closure(key, one.symbols, longer)), sorted(key(text) for text in rows))
                least = least_by(key, texts).values()
                self.assertEqual([text for text in rows if text in texts], list(least))
            if len(found[1]) * len(found[2]) < 300:
                self.assertTrue(joint.shows(*found[1:]))
        self.assertIs(shows_same(one, other, found), True)
        return found[0]

    def test_the_example_of_the_document(self):
        longer = main("right", "while not at >", "  copy", "  right")
        text, steps = lean(longer)
        self.assertEqual([same(COPY, longer)[0], same(COPY, THIRD), text == COPY.text,
                          [(line, result[0]) for line, result in steps]],
                         ["same", ("other", "b"), True, [(6, "other"), (5, "other"), (4, "other"), (3, "same")]])

    def test_a_machine_with_itself(self):
        turn = Program(TURN)
        machines = [turn, Program(TWICE), Program(LAST), Program(NEXT), Program(LOOP_AT_B), NEVER, Chain(turn, turn),
                    Program(SIXTY_SUFFIXES), chain_of(SIXTY_PREFIXES), Program(THREE_BACK)]
        for machine in machines:
            for other in (machine, copy.deepcopy(machine)):
                self.assertEqual(same(machine, other), ("same", prefixes(machine), suffixes(machine)))

    def test_by_hand(self):
        turn, last = Program(TURN), Program(LAST)
        for one, other, text in [
            (COPY, THIRD, "b"), (COPY, turn, "aa"), (COPY, NEVER, ""), (last, main("stop"), ""), (COPY, Program(TWICE), "a"),
            (Program(LOOP_AT_B), main("stop"), "b"), (last, main("write y"), "a"), (Chain(turn, turn), turn, "aa"),
            (main("write x"), main("while not at >", "  right", "write x"), ""),
            (main("right", "write x", "stop"), main("write x"), ""),
            (main("write x", "write y"), main("write y", "write x"), ""),
            (main("while not at b>", "  right", "if at b", "  write x"), main("stop"), "b"),
            (main("right", "right", "right", "right", "write x"), main("right", "right", "right", "right", "right"), "aaa"),
        ]:
            self.assertEqual(same(one, other), ("other", text))
            self.assertEqual(same(other, one), ("other", text))
            self.check(one, other, ("other", text))
        for one, other in [
            (COPY, Chain(turn, turn)), (Chain(COPY, turn), Chain(turn, COPY)), (Chain(COPY, last), last),
            (NEVER, main("while not at a", "  left", "  right", "while at <a", "  write a")), (main("stop"), main("stop", "copy")),
            (main("copy"), main("stop")), (main("write x"), main("write x", "right")),
        ][:3] + [(main("stop"), main("stop", "copy")), (main("copy"), main("stop")), (main("write x"), main("write x", "right"))]:
            self.assertEqual(self.check(one, other, same(one, other)), "same")

    def test_outcomes_count_where_nothing_is_written(self):
        one = main("while not at b>", "  right", "while at b", "  left", "  right")
        self.assertEqual(same(one, main("stop")), ("other", "b"))
        # What is written by runs that do not end counts as nothing.
        self.assertEqual(same(main("write x", "while at <", "  write x"), NEVER)[0], "same")

    def test_third_parts_of_chains_do_not_count(self):
        # The middle text of the one has an a more in front, at the left mark.
        one = Chain(main("write a", "while not at >", "  copy", "  right"), main("right", "while not at >", "  right", "  copy"))
        other = Chain(COPY, main("while not at >", "  copy", "  right"))
        self.assertNotEqual(run(one, "ab"), run(other, "ab"))
        self.assertEqual(self.check(one, other, same(one, other)), "same")

    def test_random_pairs(self):
        found = {"same": 0, "other": 0}
        lengths = {}
        for one, other in random_pairs(range(27)):
            for first, second in ((one, other), (other, one)):
                value = same_or_none(first, second)
                if value is not None:
                    found[self.check(first, second, value)] += 1
                    lengths[len(value[1])] = True
        self.assertGreater(min(found.values()), 40)
        self.assertLessEqual({0, 1, 2}, set(lengths))

    def test_a_difference_on_long_texts_alone(self):
        many = ["right"] * 17
        self.assertEqual(same(main(*many, "write x"), main(*many, "write y"))[1], "a" * 16)
        counted = main("do q", "do q", "write x", head=["part p", "  right", "  right", "  right", "  right", "part q",
                                                       "  do p", "  do p", "  do p"])
        self.assertEqual(same(counted, main("stop"))[1], "a" * 23)
        self.assertTrue(shows_same(counted, main("stop"), ("other", "ab" * 12)))
        self.assertFalse(shows_same(counted, main("stop"), ("other", "b" * 22)))

    def test_other_symbols(self):
        others = main("right", symbols="abc")
        many = Program(ONE_SUFFIX_MORE)
        for one, other in [(COPY, others), (others, COPY), (COPY, many), (many, COPY), (Chain(COPY, COPY), others),
                           (others, Chain(COPY, COPY)), (main("right", symbols="ac"), COPY)]:
            for call in (lambda: same(one, other), lambda: shows_same(one, other, None)):
                with self.assertRaises(OtherSymbols) as caught:
                    call()
                self.assertIs(caught.exception.value, other)

    def test_sixty_classes(self):
        for machine in (Program(ONE_SUFFIX_MORE), Program(MANY_PREFIXES), chain_of(ONE_PREFIX_MORE)):
            silent = main("stop", symbols=machine.symbols)
            for one, other in [(machine, machine), (machine, silent), (silent, machine)]:
                for call in (lambda: same(one, other), lambda: shows_same(one, other, ("other", "")),
                             lambda: shows_same(one, other, 5)):
                    with self.assertRaises(TooMany) as caught:
                        call()
                    self.assertEqual(caught.exception.value, 60)
        # The joint classes of two machines may be too many where neither has too many.
        sixty = Program(SIXTY_SUFFIXES)
        counts = main("while not at >", "  add n 1", "  right", "while not at <", "  add n 1", "  left", "while not at >",
                      "  add n 2", "  right", "if n = 1", "  write a", head=["cell n 2"], symbols="abyz")
        with self.assertRaises(TooMany) as caught:
            same(sixty, counts)
        self.assertEqual(caught.exception.value, 60)

    def test_names_of_the_parameters(self):
        self.assertEqual(same(other=THIRD, one=COPY), ("other", "b"))
        self.assertIs(shows_same(value=("other", "b"), other=THIRD, one=COPY), True)
        self.assertEqual(lean(program=COPY)[0], COPY.text)


class ShowsSameTest(unittest.TestCase):
    def test_all_short_texts(self):
        for one, other in [(COPY, THIRD), (COPY, Program(TURN)), (Program(LOOP_AT_B), main("stop")), (COPY, COPY),
                           (Program(LAST), Chain(Program(TURN), Program(LAST)))]:
            for text in all_texts("ab", 5):
                self.assertIs(shows_same(one, other, ("other", text)), is_other(one, other, text))

    def test_other_members_in_any_order(self):
        rnd = random.Random(7)
        found = {True: 0, False: 0}
        for one, other in random_pairs(range(100, 140)):
            value = same_or_none(one, other)
            if value is None:
                continue
            texts = all_texts(one.symbols, 3 if len(one.symbols) == 2 else 2)
            joint = Joint(one, other)
            if value[0] == "other":
                heads = list(closure(joint.prefix, one.symbols, lambda text, symbol: text + symbol).values())
                tails = list(closure(joint.suffix, one.symbols, lambda text, symbol: symbol + text).values())
                self.assertFalse(shows_same(one, other, ("same", tuple(heads), tuple(tails))))
                continue
            for _ in range(3):
                heads, tails = [list(rows) + rnd.choices(texts, k=rnd.randint(0, 3)) for rows in value[1:]]
                for rows, key in ((heads, joint.prefix), (tails, joint.suffix)):
                    rnd.shuffle(rows)
                    for text in texts[::-1]:
                        if rnd.random() < 0.3:
                            members = [at for at, row in enumerate(rows) if key(row) == key(text)]
                            rows[members[0]] = text
                    if rnd.random() < 0.25:
                        del rows[rnd.randrange(len(rows))]
                if len(heads) * len(tails) < 100:
                    expected = joint.shows(heads, tails)
                    self.assertIs(shows_same(one, other, ("same", tuple(heads), tuple(tails))), expected)
                    found[expected] += 1
        self.assertGreater(min(found.values()), 10)

    def test_a_member_left_out(self):
        turn, last = Program(TURN), Program(LAST)
        for one, other in [(turn, Chain(turn, COPY)), (last, Chain(COPY, last)), (Program(NEXT), Program(NEXT))]:
            word, heads, tails = same(one, other)
            for at in range(len(heads)):
                self.assertFalse(shows_same(one, other, (word, heads[:at] + heads[at + 1:], tails)))
            for at in range(len(tails)):
                self.assertFalse(shows_same(one, other, (word, heads, tails[:at] + tails[at + 1:])))
            self.assertFalse(shows_same(one, other, (word, (), ())))
            self.assertTrue(shows_same(one, other, (word, heads * 2, tails[::-1] + tails)))
            self.assertTrue(shows_same(one, other, (word, heads + ("ab" * 40,), ("b" * 70,) + tails)))

    def test_wrong_forms(self):
        for one, other in [(COPY, COPY), (COPY, THIRD)]:
            found = same(one, other)
            for value in [list(found), found + ((),), found[:1], ("Same", *found[1:]), (True, *found[1:]), (found,), found[::-1]]:
                self.assertIs(shows_same(one, other, value), False)
        word, heads, tails = same(COPY, COPY)
        for value in [(word, list(heads), tails), (word, heads, list(tails)), (word, "", tails), (word, heads, ""),
                      (word, heads + (None,), tails), (word, heads + (0,), tails), (word, heads, tails + ("c",)),
                      (word, heads, tails + (("a",),)), (word, heads, tails + (["a"],)), (word, heads, {"": ""}),
                      ("other", heads, tails), (word, heads), (word, heads, None)]:
            kept = copy.deepcopy(value)
            self.assertIs(shows_same(COPY, COPY, value), False)
            self.assertEqual(value, kept)
        for value in ["c", "B", "b ", None, 0, ("b",), ["b"], True, {}]:
            self.assertIs(shows_same(COPY, THIRD, ("other", value)), False)
            self.assertIs(shows_same(COPY, THIRD, ("same", value)), False)
        self.assertIs(shows_same(COPY, THIRD, ("other", "b")), True)

    def test_any_value(self):
        for value in ["", "same", "other", *NO_STRINGS]:
            kept = copy.deepcopy(value)
            for one, other in [(COPY, THIRD), (Program(TURN), Program(TURN))]:
                for whole in (value, ("same", value, value), ("other", value), (value, "c"), ([value], ("", "a"), ("", "a"))):
                    self.assertIs(shows_same(one, other, whole), False)
            self.assertEqual(value, kept)


def own_lean(program):
    """lean read line by line: a statement goes on to the next line that is not deeper and no else."""
    lines = list(enumerate(program.text.split("\n"), start=1))
    steps = []
    first = [line for _, line in lines].index("main")
    starts = [number for number, line in lines if line.startswith(" ") and line.strip() != "else"]
    for number in sorted(starts, reverse=True):
        at = [row[0] for row in lines].index(number)
        depth = len(lines[at][1]) - len(lines[at][1].lstrip(" "))
        end = at + 1
        while end < len(lines) and (len(lines[end][1]) - len(lines[end][1].lstrip(" ")) > depth
                                    or lines[end][1] == " " * depth + "else"):
            end += 1
        rest = lines[:at] + lines[end:]
        try:
            less = Program("\n".join(line for _, line in rest))
        except BadProgram:
            steps.append((number, None))
            continue
        try:
            steps.append((number, same(less, Program("\n".join(line for _, line in lines)))))
        except TooMany:
            steps.append((number, "many"))
            continue
        if steps[-1][1][0] == "same":
            lines = rest
    assert first > 0
    return "\n".join(line for _, line in lines), tuple(steps)


class LeanTest(unittest.TestCase):
    def check(self, program):
        text, steps = lean(program)
        self.assertEqual((text, steps), own_lean(program))
        for other in all_texts(program.symbols, 4 if len(program.symbols) == 2 else 2):
            self.assertFalse(is_other(program, Program(text), other))
        return steps

    def test_statements_in_their_order_with_their_bodies(self):
        program = main("right", "if at a", "  left", "  right", "else", "  if at b", "    stop", "while at >", "  right", "copy")
        text, steps = lean(program)
        self.assertEqual([line for line, _ in steps], [12, 11, 10, 9, 8, 6, 5, 4, 3])
        self.assertEqual(self.check(program), steps)

    def test_none_where_no_program_would_be_left(self):
        text, steps = lean(main("write x"))
        self.assertEqual((text, steps), (main("write x").text, ((3, None),)))
        program = main("do p", "if at a", "  write x", "else", "  write y", head=["part p", "  stop"])
        self.assertEqual([line for line, result in lean(program)[1] if result is None], [9, 7, 5, 3])
        # The part is left although nothing is done: it has no empty body.
        program = main("write x", head=["part p", "  copy", "  left"])
        text, steps = lean(program)
        self.assertEqual(text, main("write x", head=["part p", "  copy"]).text)
        self.assertEqual([result if result is None else result[0] for _, result in steps], [None, "same", None])

    def test_parts_and_cells_stay(self):
        program = main("set n 1", "copy", "do p", head=["cell n 1", "cell m 2", "part p", "  right", "  left"])
        text, _ = lean(program)
        self.assertEqual(text, main("set n 1", head=["cell n 1", "cell m 2", "part p", "  right"]).text)

    def test_what_was_left_out_stays_out(self):
        # Each of two equal rows could go, but not both.
        program = main("while not at >", "  right", "set n 1", "set n 1", "if n = 1", "  write x", head=["cell n 1"])
        text, steps = lean(program)
        self.assertEqual([result and result[0] for _, result in steps], [None, "other", "same", "other", None, "other"])
        self.assertEqual(text, main("while not at >", "  right", "set n 1", "if n = 1", "  write x", head=["cell n 1"]).text)

    def test_many_where_there_are_too_many_classes(self):
        for text in (ONE_SUFFIX_MORE, MANY_PREFIXES):
            steps = self.check(Program(text))
            self.assertIn("many", [result for _, result in steps])
            self.assertGreater(len([result for _, result in steps]), 8)

    def test_samples(self):
        for text in (TURN, TWICE, LAST, LOOP_AT_B, NEXT, THREE_BACK):
            self.check(Program(text))

    def test_random_programs(self):
        kinds = {}
        for seed in range(40):
            for text in [Sweeper(seed).program()] + [Maker(seed).program()] * (seed % 4 == 0):
                for _, result in self.check(Program(text)):
                    kinds[result if result in (None, "many") else result[0]] = True
        self.assertEqual(set(kinds), {None, "same", "other"})
