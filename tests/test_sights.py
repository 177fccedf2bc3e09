"""Section 10: lookahead."""

import copy
import random
import unittest

from fewgoings.errors import BadPass, TooMany
from fewgoings.programs import Program
from fewgoings.sights import lookahead, shows_lookahead
from fewgoings.writers import writer
from tests.brute import all_texts, cut_passes, output_on
from tests.machines import COPY, main
from tests.randoms import Maker, Sweeper
from tests.samples import (
    FORTY_STATES, LAST, LOOP_AT_B, MANY_PREFIXES, NEXT, NO_STRINGS, ONE_LEFT_STATE_MORE, ONE_RIGHT_STATE_MORE,
    ONE_SUFFIX_MORE, SIXTY_SUFFIXES, THREE_BACK, TURN, TWICE,
)

# Writes x where the symbol after the next one is an a.
SECOND = main("right", "while not at >", "  right", "  right", "  if at a", "    set n 1", "  left", "  if not at >",
              "    left", "  if n = 1", "    write x", "  set n 0", "  right", head=["cell n 1"])
# Writes x at a symbol that the right mark follows.
MARK = main("right", "while not at >", "  right", "  if at >", "    left", "    write x", "    stop")
# The left mark alone depends on what comes behind it, namely on the first symbol.
FIRST = main("right", "if at b", "  left", "  write x")
# Writes x at a symbol behind ab, if an a follows.
BEHIND_AB = main("right", "while not at >", "  right", "  if at a", "    set n 1", "  left", "  if n = 1", "    if m = 2",
                 "      write x", "  set n 0", "  if at a", "    set m 1", "  else", "    if m = 1", "      set m 2", "    else",
                 "      set m 0", "  right", head=["cell n 1", "cell m 2"])
# Tells at the left mark whether the text begins with ab or ends with it.
AB_AT_BOTH = main("right", "if at a", "  set n 1", "right", "if at b", "  if n = 1", "    set m 1", "while not at >", "  right",
                  "left", "if at b", "  left", "  if at a", "    set m 2", "while not at <", "  left", "if m = 1", "  write x",
                  head=["cell n 1", "cell m 2"])


class Words:
    """The words of a pass on explicit texts."""

    def __init__(self, program, number):
        self.program, self.number = program, number
        self.known = {}

    def end_word(self, prefix, suffix):
        """The word at the last position of a prefix."""
        text = prefix + suffix
        if text not in self.known:
            found = cut_passes(output_on(self.program, text), False)
            self.known[text] = dict(found[self.number - 1]) if len(found) >= self.number else {}
        return self.known[text].get(len(prefix), "")


def agree(one, other, many):
    return one == other or (len(one) >= many and len(other) >= many and one[:many] == other[:many])


def right_state(program, number, text):
    state, rights = 0, writer(program, number)[1]
    for symbol in reversed(text):
        state = rights[state][program.symbols.index(symbol)]
    return state


def is_shown(words, value, least):
    """Whether a value of one of the described forms is right; least is the lookahead, None if endless."""
    program = words.program
    if value[0] == "endless":
        _, prefix, common, ring, one, other = value
        same_states = all(right_state(program, words.number, ring + text) == right_state(program, words.number, text)
                          for text in (one, other))
        return ring != "" and same_states and (
            words.end_word(prefix, common + one) != words.end_word(prefix, common + other))
    if value[1] != least:
        return False
    if least == 0 or value[2] is None:
        return least == 0 and value[2] is None
    prefix, one, other = value[2]
    return agree(one, other, least - 1) and words.end_word(prefix, one) != words.end_word(prefix, other)


def random_programs(seeds):
    for seed in seeds:
        yield Program(Sweeper(seed).program())
        if seed % 4 == 0:
            yield Program(Maker(seed).program())


def found_for(programs, numbers):
    """(program, number, what lookahead returns) where it returns something."""
    for program in programs:
        for number in numbers:
            try:
                yield program, number, lookahead(program, number)
            except TooMany:
                pass


class LookaheadTest(unittest.TestCase):
    def check(self, program, number, found):
        """Compares with the words of all short prefixes in front of all short suffixes."""
        words = Words(program, number)
        size = {2: 5, 3: 3, 4: 3}[len(program.symbols)]
        if found[0] == "endless":
            _, prefix, common, ring, one, other = found
            self.assertTrue(is_shown(words, found, None))
            for many in range(4):
                rings = common + ring * many
                self.assertNotEqual(words.end_word(prefix, rings + one), words.end_word(prefix, rings + other))
        else:
            self.assertTrue(is_shown(words, found, found[1]), found)
            suffixes = all_texts(program.symbols, size)
            for prefix in all_texts(program.symbols, size - 2):
                heads = {}
                for suffix in suffixes:
                    known = suffix if len(suffix) < found[1] else (suffix[:found[1]],)
                    heads.setdefault(known, set()).add(words.end_word(prefix, suffix))
                self.assertEqual({len(kinds) for kinds in heads.values()}, {1})
        self.assertIs(shows_lookahead(program, number, found), True)

    def test_the_example_of_the_document(self):
        last, following = Program(LAST), Program(NEXT)
        self.assertEqual([lookahead(following, 1)[:2], lookahead(last, 1)[0],
                          shows_lookahead(last, 1, ("endless", "", "", "a", "a", "b"))], [("sees", 1), "endless", True])

    def test_no_lookahead(self):
        for program, number in [(COPY, 1), (COPY, 2), (COPY, 9), (Program(LAST), 2), (Program(LOOP_AT_B), 1),
                                (main("write x"), 1), (Program(TWICE), 3), (main("right", "write x"), 1)]:
            self.assertEqual(lookahead(program, number), ("sees", 0, None))
            self.check(program, number, ("sees", 0, None))

    def test_by_hand(self):
        for program, number, many in [(SECOND, 1, 2), (MARK, 1, 1), (FIRST, 1, 1), (Program(NEXT), 1, 1),
                                      (Program(TURN), 1, 1), (Program(TURN), 2, 2), (Program(TURN), 9, 9),
                                      (Program(TWICE), 1, 1), (Program(TWICE), 2, 1)]:
            found = lookahead(program, number)
            self.assertEqual(found[:2], ("sees", many))
            self.check(program, number, found)

    def test_the_left_mark(self):
        self.assertEqual(lookahead(FIRST, 1)[2][0], "")
        found = lookahead(Program(LAST), 1)
        self.assertEqual(found[:2], ("endless", ""))
        self.assertNotEqual(found[3], "")

    def test_the_order_of_symbols_in_the_texts(self):
        found = lookahead(BEHIND_AB, 1)
        self.assertEqual((found[:2], found[2][0][:-1]), (("sees", 1), "ab"))
        self.assertEqual(lookahead(AB_AT_BOTH, 1)[0], "endless")

    def test_the_right_mark_alone_decides(self):
        prefix, one, other = lookahead(MARK, 1)[2]
        self.assertNotEqual(prefix, "")
        self.assertEqual(sorted([one == "", other == ""]), [False, True])

    def test_runs_that_do_not_end_write_nothing(self):
        program = main("right", "copy", "right", "while at b", "  left", "  right")
        found = lookahead(program, 1)
        self.assertEqual(found[:2], ("sees", 1))
        self.check(program, 1, found)
        far = main("right", "copy", "while not at >", "  right", "left", "while at b", "  write x")
        self.assertEqual(lookahead(far, 1)[0], "endless")
        self.check(far, 1, lookahead(far, 1))

    def test_samples(self):
        programs = [Program(text) for text in (TURN, TWICE, LAST, LOOP_AT_B, NEXT, THREE_BACK, SIXTY_SUFFIXES)]
        for program, number, found in found_for([*programs, SECOND, MARK, FIRST, BEHIND_AB, AB_AT_BOTH], range(1, 10)):
            self.check(program, number, found)

    def test_random_programs(self):
        kinds = {}
        for program, number, found in found_for(random_programs(range(70)), (1, 2, 3, 5)):
            self.check(program, number, found)
            kinds[found[:1] if found[0] == "endless" else found[:2]] = True
        self.assertLessEqual({("endless",), ("sees", 0), ("sees", 1), ("sees", 2)}, set(kinds))

    def test_a_ring_of_several_symbols(self):
        # The first symbol is written if the number of symbols behind it is odd.
        program = main("while not at >", "  add n 1", "  right", "while not at <", "  left", "right", "if n = 1",
                       "  write x", head=["cell n 1"])
        found = lookahead(program, 1)
        self.assertEqual(found[0], "endless")
        self.assertEqual(len(found[3]) % 2, 0)
        self.check(program, 1, found)
        self.assertFalse(shows_lookahead(program, 1, (*found[:3], "a", *found[4:])))

    def test_bad_pass(self):
        for value in [True, False, 0, 10, -1, 10 ** 30, "1", "", *NO_STRINGS]:
            if not isinstance(value, bool) and value in (1, 3):
                continue
            kept = copy.deepcopy(value)
            for text in (TURN, ONE_SUFFIX_MORE):
                for call in (lambda: lookahead(Program(text), value),
                             lambda: shows_lookahead(Program(text), value, ("sees", 0, None))):
                    with self.assertRaises(BadPass) as caught:
                        call()
                    self.assertIs(caught.exception.value, value)
            self.assertEqual(value, kept)

    def test_too_many(self):
        for text, number, many in [(ONE_RIGHT_STATE_MORE, 7, 40), (ONE_LEFT_STATE_MORE, 4, 40), (THREE_BACK, 4, 40),
                                   (ONE_SUFFIX_MORE, 1, 60), (MANY_PREFIXES, 9, 60)]:
            for call in (lambda: lookahead(Program(text), number), lambda: shows_lookahead(Program(text), number, None)):
                with self.assertRaises(TooMany) as caught:
                    call()
                self.assertEqual(caught.exception.value, many)
        self.assertEqual(lookahead(Program(FORTY_STATES), 6)[0], "endless")

    def test_names_of_the_parameters(self):
        self.assertEqual(lookahead(number=2, program=COPY), ("sees", 0, None))
        self.assertIs(shows_lookahead(value=("sees", 0, None), number=2, program=COPY), True)


class ShowsLookaheadTest(unittest.TestCase):
    def test_all_short_texts(self):
        texts = all_texts("ab", 3)
        for program, number in [(SECOND, 1), (MARK, 1), (FIRST, 1), (Program(NEXT), 1), (Program(TURN), 2)]:
            words, many = Words(program, number), lookahead(program, number)[1]
            found = {True: 0, False: 0}
            for prefix in texts[:7]:
                for one in texts:
                    for other in texts:
                        value = ("sees", many, (prefix, one, other))
                        self.assertIs(shows_lookahead(program, number, value), is_shown(words, value, many), value)
                        found[is_shown(words, value, many)] += 1
            self.assertGreater(min(found.values()), 0)

    def test_other_numbers(self):
        for program, many in [(COPY, 0), (Program(NEXT), 1), (SECOND, 2)]:
            for other in [*range(5), -1, True, False, None, "1", (1,), 10 ** 30]:
                texts = lookahead(program, 1)[2]
                expected = not isinstance(other, bool) and other == many
                self.assertIs(shows_lookahead(program, 1, ("sees", other, texts)), expected)
        for other in (0, 1, 2, 3):
            self.assertFalse(shows_lookahead(Program(LAST), 1, ("sees", other, ("", "a", "b"))))
            self.assertFalse(shows_lookahead(Program(LAST), 1, ("sees", other, None)))
        self.assertFalse(shows_lookahead(COPY, 1, ("sees", 0, ("", "a", "b"))))
        self.assertFalse(shows_lookahead(Program(NEXT), 1, ("sees", 1, None)))

    def test_all_short_rings(self):
        texts = all_texts("ab", 2)
        odd = main("while not at >", "  add n 1", "  right", "while not at <", "  left", "if n = 1", "  write x",
                   head=["cell n 1"])
        for program in (Program(LAST), odd, Program(NEXT)):
            words = Words(program, 1)
            for prefix in ("", "b"):
                for common in texts[:4]:
                    for ring in texts:
                        for one in texts[:4]:
                            for other in texts[:4]:
                                value = ("endless", prefix, common, ring, one, other)
                                self.assertIs(shows_lookahead(program, 1, value), is_shown(words, value, None), value)

    def test_longer_values_of_random_programs(self):
        rnd = random.Random(5)
        shown = {True: 0, False: 0}
        for program, number, found in found_for(random_programs(range(100, 150)), (1, 2)):
            words = Words(program, number)
            least = found[1] if found[0] == "sees" else None
            for _ in range(4):
                if found[0] == "endless":
                    _, prefix, common, ring, one, other = found
                    values = [
                        ("endless", prefix, common + ring, ring * 2, one, other),
                        ("endless", prefix * 2, common * 2, ring * 3, one * 2, other),
                        ("endless", prefix, common, ring, ring + one, ring * 2 + other),
                        ("endless", prefix, common, ring[1:], one, other),
                        ("endless", prefix, common, Maker(0).text(program.symbols), one, other),
                        ("endless", *[self.drawn(rnd, program, 4) for _ in range(5)]),
                    ]
                else:
                    prefix, one, other = found[2] or ("", "", "")
                    values = [
                        ("sees", found[1], (prefix * 2, one, other)), ("sees", found[1], (prefix, one * 2, other * 2)),
                        ("sees", found[1], (prefix, one + self.drawn(rnd, program, 9), other + self.drawn(rnd, program, 9))),
                        ("sees", found[1], (prefix, other, one)), ("sees", found[1], (prefix, one, one)),
                        ("sees", found[1], tuple(self.drawn(rnd, program, 4) for _ in range(3))),
                    ]
                for value in values:
                    self.assertIs(shows_lookahead(program, number, value), is_shown(words, value, least), value)
                    shown[is_shown(words, value, least)] += 1
        self.assertGreater(min(shown.values()), 100)

    def drawn(self, rnd, program, most):
        return "".join(rnd.choice(program.symbols) for _ in range(rnd.randint(0, most)))

    def test_texts_that_agree_in_more_or_fewer_symbols(self):
        # a and b agree in 0 symbols, aa and ab in 1: just that is asked of SECOND.
        for one, other, expected in [("aa", "ab", True), ("ba", "b", True), ("ba", "bb", True), ("aa", "bb", False),
                                     ("a", "b", False), ("aaa", "aab", False), ("ba", "", False), ("aab", "abb", True)]:
            self.assertIs(shows_lookahead(SECOND, 1, ("sees", 2, ("a", one, other))), expected)

    def test_wrong_forms(self):
        program, last = Program(NEXT), Program(LAST)
        good = lookahead(program, 1)
        endless = ("endless", "", "", "a", "a", "b")
        self.assertTrue(shows_lookahead(program, 1, good) and shows_lookahead(last, 1, endless))
        for value in [list(good), (*good, None), good[:2], ("sees", 1, list(good[2])), ("sees", 1, (*good[2], "")),
                      ("sees", 1, good[2][:2]), ("sees", 1, "aab"), ("sees", 1, ("a", "", None)), ("sees", 1, ("a", "", 1)),
                      ("sees", 1, ("a", "", "c")), ("sees", 1, ("c", "", "a")), ("sees", 1, ("a", "", ["a"])),
                      ("Sees", 1, good[2]), (["sees"], 1, good[2]), (None, 1, good[2]), ("endless", 1, good[2]),
                      ("sees", True, good[2]), (good,), "sees", ("sees",)]:
            kept = copy.deepcopy(value)
            self.assertIs(shows_lookahead(program, 1, value), False, value)
            self.assertEqual(value, kept)
        for value in [list(endless), endless[:5], (*endless, ""), ("endless", "", "", "", "a", "b"),
                      ("endless", "", "", "a", "a", "a"), ("endless", "", "", "a", "a", "c"), ("endless", "x", "", "a", "a", "b"),
                      ("endless", "", "", ("a",), "a", "b"), ("endless", "", "", "a", None, "b"), ("endless", None, "", "a", "a", "b"),
                      ("endless", "", 0, "a", "a", "b"), ("endless", "", "", ["a"], "a", "b"), ("sees", "", "", "a", "a", "b"),
                      ("endless", ("", "", "a", "a", "b"))]:
            self.assertIs(shows_lookahead(last, 1, value), False, value)

    def test_any_value(self):
        for value in ["", "ab", "sees", *NO_STRINGS]:
            kept = copy.deepcopy(value)
            for program, number in [(COPY, 1), (Program(LAST), 1), (Program(NEXT), 2)]:
                self.assertIs(shows_lookahead(program, number, value), False)
                self.assertIs(shows_lookahead(program, number, ("sees", value, value)), False)
                self.assertIs(shows_lookahead(program, number, ("endless", value, value, value, value, value)), False)
            self.assertEqual(value, kept)
