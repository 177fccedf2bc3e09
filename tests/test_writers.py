"""Section 9: writers."""

import copy
import itertools
import random
import unittest

from fewgoings.classes import prefixes
from fewgoings.errors import BadPass, BadText, BadWriter, TooMany
from fewgoings.passes import passes
from fewgoings.programs import Program
from fewgoings.writers import is_writer, partings, shows_writer, writer, written
from tests.brute import all_texts
from tests.machines import COPY, main
from tests.randoms import Maker, Sweeper
from tests.samples import (
    FORTY_STATES, LAST, LOOP_AT_B, MANY_PREFIXES, NO_STRINGS, ONE_LEFT_STATE_MORE, ONE_RIGHT_STATE_MORE,
    ONE_SUFFIX_MORE, SIXTY_SUFFIXES, THREE_BACK, TURN, TWICE,
)

NOTHING = (((0, 0),), ((0, 0),), (), (), ())
OF_LAST = (((0, 0),), ((1, 2), (1, 1), (2, 2)), ((0, "y"), (1, "x"), (2, "y")), (), ())


def random_programs(seeds):
    for seed in seeds:
        for program in [Program(Sweeper(seed).program())] + [Program(Maker(seed).program())] * (seed % 3 == 0):
            try:
                prefixes(program)
            except TooMany:
                continue
            yield program


def short_texts(program, less=0):
    return all_texts(program.symbols, {2: 6, 3: 4, 4: 3}[len(program.symbols)] - less)


def pass_on(program, text, number):
    """What a pass writes, as passes tells it."""
    return dict(enumerate(passes(program, text), start=1)).get(number, ())


class Own:
    """A writer read in the plainest way."""

    def __init__(self, symbols, value):
        self.symbols = symbols
        self.lefts, self.rights, self.first, self.words, self.last = value

    def moved(self, moves, state, signs):
        for sign in signs:
            state = moves[state][self.symbols.index(sign)]
        return state

    def from_left(self, text, state):
        """The words at the symbols and at the right mark, the left state in front being given."""
        words = [
            {row[:3]: row[3] for row in self.words}.get(
                (self.moved(self.lefts, state, text[:at]), sign, self.moved(self.rights, 0, text[:at:-1])), "")
            for at, sign in enumerate(text)
        ]
        return [*words, dict(self.last).get(self.moved(self.lefts, state, text), "")]

    def from_right(self, text, state):
        """The words at the left mark and at the symbols, the right state behind being given."""
        words = [
            {row[:3]: row[3] for row in self.words}.get(
                (self.moved(self.lefts, 0, text[:at]), sign, self.moved(self.rights, state, text[:at:-1])), "")
            for at, sign in enumerate(text)
        ]
        return [dict(self.first).get(self.moved(self.rights, state, text[::-1]), ""), *words]

    def written(self, text):
        words = self.from_right(text, 0)[:1] + self.from_left(text, 0)
        return tuple((position, word) for position, word in enumerate(words) if word)

    def partings(self, texts):
        """The partings, so far as these texts, in text order, tell them."""
        found = []
        for kind, moves in ((self.from_left, self.lefts), (self.from_right, self.rights)):
            rows = []
            known = {(text, state): kind(text, state) for text in texts for state in range(len(moves))}
            for one, two in itertools.combinations(range(len(moves)), 2):
                parting = (text for text in texts if known[text, one] != known[text, two])
                rows.append((one, two, next(parting, None)))
            found.append(tuple(rows))
        return tuple(found)

    def is_numbered_as_met(self):
        for moves in (self.lefts, self.rights):
            met = [0]
            for state in met:
                met += [after for at, after in enumerate(moves[state])
                        if after not in met and after not in moves[state][:at]]
            if met != list(range(len(moves))):
                return False
        return True


def random_writer(rnd, symbols="ab", most=3):
    """Any writer; not all of its states need be met."""
    lefts, rights = [
        tuple(tuple(rnd.randrange(many) for _ in symbols) for _ in range(many))
        for many in (rnd.randint(1, most), rnd.randint(1, most))
    ]
    words = ["", "", "x", "y", "xy"]
    first = tuple((right, word) for right in range(len(rights)) if (word := rnd.choice(words)))
    last = tuple((left, word) for left in range(len(lefts)) if (word := rnd.choice(words)))
    inner = tuple(
        (left, symbol, right, word)
        for left in range(len(lefts)) for symbol in symbols for right in range(len(rights)) if (word := rnd.choice(words))
    )
    return lefts, rights, first, inner, last


def with_more_states(rnd, symbols, value, more):
    """A writer that writes the same, with copies of states on both sides, numbered otherwise."""
    lefts, rights, first, words, last = value
    sides = []
    for moves in (lefts, rights):
        old = list(range(len(moves))) + [rnd.randrange(len(moves)) for _ in range(rnd.randint(0, more))]
        rest = old[1:]
        rnd.shuffle(rest)
        old = [0, *rest]
        copies = {state: [new for new, source in enumerate(old) if source == state] for state in range(len(moves))}
        sides.append((old, copies, tuple(tuple(rnd.choice(copies[after]) for after in moves[state]) for state in old)))
    (old_left, left_copies, lefts), (old_right, right_copies, rights) = sides
    inner = [
        (left, symbol, right, word)
        for one, symbol, two, word in words for left in left_copies[one] for right in right_copies[two]
    ]
    first = sorted((right, word) for one, word in first for right in right_copies[one])
    last = sorted((left, word) for one, word in last for left in left_copies[one])
    return lefts, rights, tuple(first), tuple(sorted(inner)), tuple(last)


class WriterTest(unittest.TestCase):
    def check(self, program, number, texts):
        """Compares a writer with passes, and its states with each other; returns the writer."""
        found = writer(program, number)
        own = Own(program.symbols, found)
        self.assertTrue(is_writer(program, found))
        for text in texts:
            expected = pass_on(program, text, number)
            self.assertEqual(own.written(text), expected)
            self.assertEqual(written(program, found, text), expected)
        self.assertTrue(own.is_numbered_as_met())
        self.assertNotIn(None, [text for rows in partings(program, found) for _, _, text in rows])
        self.assertTrue(shows_writer(program, number, found))
        return found

    def test_the_example_of_the_document(self):
        last = Program(LAST)
        found = writer(last, 1)
        self.assertEqual([found, written(last, found, "ba"), partings(last, found)],
                         [OF_LAST, ((0, "x"),), ((), ((0, 1, ""), (0, 2, "a"), (1, 2, "")))])

    def test_every_pass_of_the_samples(self):
        for text in (TURN, TWICE, LAST, LOOP_AT_B, THREE_BACK, FORTY_STATES):
            program = Program(text)
            for number in range(1, 10):
                try:
                    self.check(program, number, short_texts(program))
                except TooMany as error:
                    self.assertEqual(error.value, 40)
                    self.assertIn(text, (THREE_BACK, FORTY_STATES))

    def test_random_programs(self):
        sizes = {}
        for program in random_programs(range(50)):
            for number in (1, 2, 3, 9):
                try:
                    found = self.check(program, number, short_texts(program, 1))
                except TooMany as error:
                    self.assertEqual(error.value, 40)
                    continue
                sizes[len(found[0]) > 1, len(found[1]) > 1] = True
        self.assertEqual(len(sizes), 4)

    def test_whole_writers(self):
        self.assertEqual(writer(COPY, 1), (((0, 0),), ((0, 0),), (), ((0, "a", 0, "a"), (0, "b", 0, "b")), ()))
        self.assertEqual(writer(Program(TURN), 2), (
            ((0, 0),), ((1, 1), (2, 2), (2, 2)), (), ((0, "a", 1, "a"), (0, "b", 1, "b")), ()))
        marks = main("while not at >", "  if at a", "    set n 1", "  right", "if n = 1", "  write z", "write y",
                     head=["cell n 1"])
        self.assertEqual(writer(marks, 1), (((1, 0), (1, 1)), ((0, 0),), (), (), ((0, "y"), (1, "zy"))))

    def test_states_are_numbered_as_they_are_met_by_the_symbols_in_their_order(self):
        # In front, c and b lead to new states, a to none; behind, only b does.
        program = main("while not at >", "  if at c", "    set n 1", "  if at b", "    set n 2", "  right", "if n = 1",
                       "  write p", "if n = 2", "  write q", head=["cell n 2"], symbols="abc")
        found = writer(program, 1)
        self.assertEqual(found, (((0, 1, 2), (1, 1, 2), (2, 1, 2)), ((0, 0, 0),), (), (), ((1, "q"), (2, "p"))))

    def test_passes_beyond_the_needed_ones(self):
        for program, number in [(COPY, 2), (Program(LAST), 2), (Program(LAST), 9), (main("right"), 1),
                                (Program(LOOP_AT_B), 1), (Program(TWICE), 3), (main("while at <", "  copy"), 5)]:
            self.assertEqual(writer(program, number), NOTHING)

    def test_runs_that_do_not_end_write_nothing(self):
        program = main("right", "copy", "while at b", "  write x")
        found = self.check(program, 1, short_texts(program))
        self.assertEqual(written(program, found, "ba"), ())
        self.assertEqual(written(program, found, "ab"), ((1, "a"),))

    def test_no_fewer_states_would_do(self):
        # Texts that lead to one state are followed by the same words, and partings tell the states apart.
        found = {}
        for program in [Program(TURN), Program(TWICE), Program(LAST), *random_programs(range(60, 75))]:
            texts = short_texts(program, 3)
            for number in (1, 2, 3):
                own = Own(program.symbols, writer(program, number))
                words = {(one, two): dict(pass_on(program, one + two, number)) for one in texts for two in texts}
                lefts, rights = {}, {}
                for one in texts:
                    behind = tuple(words[one, two].get(at, "") for two in texts
                                   for at in range(len(one) + 1, len(one + two) + 2))
                    in_front = tuple(words[two, one].get(at, "") for two in texts for at in range(len(two) + 1))
                    lefts.setdefault(own.moved(own.lefts, 0, one), set()).add(behind)
                    rights.setdefault(own.moved(own.rights, 0, one[::-1]), set()).add(in_front)
                for states in (lefts, rights):
                    self.assertEqual({len(rows) for rows in states.values()}, {1})
                    found[len(states)] = True
        self.assertLessEqual({1, 2, 3}, set(found))

    def test_bad_pass(self):
        turn = Program(TURN)
        for value in [True, False, 0, 10, -1, 10 ** 30, "1", "", *NO_STRINGS]:
            if not isinstance(value, bool) and value in (1, 3):
                continue
            kept = copy.deepcopy(value)
            for call in (lambda: writer(turn, value), lambda: shows_writer(turn, value, NOTHING),
                         lambda: writer(Program(ONE_SUFFIX_MORE), value)):
                with self.assertRaises(BadPass) as caught:
                    call()
                self.assertIs(caught.exception.value, value)
                self.assertEqual(value, kept)
        for number in range(1, 10):
            writer(turn, number)

    def test_forty_states(self):
        found = writer(Program(FORTY_STATES), 6)
        self.assertEqual((len(found[0]), len(found[1])), (3, 40))
        for text, number in [(ONE_RIGHT_STATE_MORE, 7), (ONE_LEFT_STATE_MORE, 4), (THREE_BACK, 4)]:
            for call in (lambda: writer(Program(text), number), lambda: shows_writer(Program(text), number, NOTHING),
                         lambda: shows_writer(Program(text), number, None)):
                with self.assertRaises(TooMany) as caught:
                    call()
                self.assertEqual(caught.exception.value, 40)
            writer(Program(text), number - 1)

    def test_sixty_classes(self):
        for text in (ONE_SUFFIX_MORE, MANY_PREFIXES):
            for number in (1, 5, 9):
                for call in (lambda: writer(Program(text), number), lambda: shows_writer(Program(text), number, 0)):
                    with self.assertRaises(TooMany) as caught:
                        call()
                    self.assertEqual(caught.exception.value, 60)
        self.check(Program(SIXTY_SUFFIXES), 1, short_texts(Program(SIXTY_SUFFIXES)))

    def test_names_of_the_parameters(self):
        last = Program(LAST)
        self.assertEqual(writer(number=1, program=last), OF_LAST)
        self.assertTrue(is_writer(value=OF_LAST, program=last))
        self.assertTrue(shows_writer(value=OF_LAST, number=1, program=last))
        self.assertEqual(written(text="b", writer=OF_LAST, program=last), ((0, "y"),))
        self.assertEqual(partings(writer=OF_LAST, program=last), partings(last, OF_LAST))


class ShowsWriterTest(unittest.TestCase):
    def test_more_states_in_another_order(self):
        rnd = random.Random(8)
        for program in random_programs(range(100, 125)):
            for number in (1, 2):
                value = writer(program, number)
                for _ in range(4):
                    other = with_more_states(rnd, program.symbols, value, 4)
                    self.assertTrue(is_writer(program, other))
                    self.assertTrue(shows_writer(program, number, other))

    def test_other_words_beside_an_own_reading(self):
        rnd = random.Random(9)
        found = {True: 0, False: 0}
        for program in [*random_programs(range(125, 150)), Program(TURN), Program(TWICE)]:
            if len(program.symbols) > 2:
                continue
            for number in (1, 2, 3):
                lefts, rights, first, words, last = with_more_states(rnd, program.symbols, writer(program, number), 2)
                change = rnd.randrange(4)
                if change == 0 and words:
                    words = words[:-1]
                elif change == 1:
                    first = tuple(sorted((dict(first) | {rnd.randrange(len(rights)): "x"}).items()))
                elif change == 2:
                    last = tuple(sorted((dict(last) | {rnd.randrange(len(lefts)): "z"}).items()))
                else:
                    at = rnd.randrange(len(rights))
                    row = (rnd.randrange(len(rights)), rights[at][1])
                    rights = (*rights[:at], row, *rights[at + 1:])
                value = (lefts, rights, first, words, last)
                own = Own(program.symbols, value)
                expected = all(own.written(text) == pass_on(program, text, number)
                               for text in all_texts(program.symbols, 7))
                self.assertEqual(shows_writer(program, number, value), expected, value)
                found[expected] += 1
        self.assertGreater(min(found.values()), 15)

    def test_a_difference_on_long_texts_alone(self):
        # So many left states that the last one is met behind fifty symbols only.
        lefts = tuple((min(state + 1, 50),) * 2 for state in range(51))
        words = tuple((left, symbol, 0, symbol) for left in range(51) for symbol in "ab")
        self.assertTrue(shows_writer(COPY, 1, (lefts, ((0, 0),), (), words, ())))
        self.assertFalse(shows_writer(COPY, 1, (lefts, ((0, 0),), (), words[:-1], ())))
        self.assertFalse(shows_writer(COPY, 1, (lefts, ((0, 0),), (), words, ((50, "x"),))))
        # The same for right states, and for a pair of both.
        words = tuple((0, symbol, right, symbol) for symbol in "ab" for right in range(51))
        self.assertTrue(shows_writer(COPY, 1, (((0, 0),), lefts, (), words, ())))
        self.assertFalse(shows_writer(COPY, 1, (((0, 0),), lefts, (), words[:-1], ())))
        self.assertFalse(shows_writer(COPY, 1, (((0, 0),), lefts, ((50, "x"),), words, ())))
        lefts = lefts[:20] + ((20, 20),)
        words = tuple((left, symbol, right, symbol) for left in range(21) for symbol in "ab" for right in range(21))
        self.assertTrue(shows_writer(COPY, 1, (lefts, lefts, (), words, ())))
        self.assertFalse(shows_writer(COPY, 1, (lefts, lefts, (), words[:-1], ())))

    def test_states_that_are_never_met_do_not_matter(self):
        value = (((0, 0), (1, 0)), ((0, 0), (1, 1)), ((1, "x"),),
                 ((0, "a", 0, "a"), (0, "b", 0, "b"), (1, "a", 1, "z")), ((1, "x"),))
        self.assertTrue(shows_writer(COPY, 1, value))

    def test_the_number_matters(self):
        twice = Program(TWICE)
        self.assertFalse(shows_writer(twice, 1, writer(twice, 2)))
        self.assertFalse(shows_writer(twice, 2, writer(twice, 1)))
        self.assertTrue(shows_writer(twice, 3, NOTHING))
        self.assertFalse(shows_writer(twice, 2, NOTHING))

    def test_any_value(self):
        for value in ["", "ab", (NOTHING,), list(NOTHING), *NO_STRINGS]:
            kept = copy.deepcopy(value)
            self.assertIs(shows_writer(COPY, 2, value), False)
            self.assertEqual(value, kept)
        self.assertIs(shows_writer(COPY, 2, NOTHING), True)


# A writer with two left states and three right ones, and what spoils its form.
GOOD = (
    ((0, 1), (1, 0)), ((1, 2), (2, 2), (0, 0)), ((0, "x"), (2, "yy")),
    ((0, "a", 1, "p"), (0, "b", 0, "q"), (1, "a", 0, "r"), (1, "a", 2, "st")), ((0, "u"), (1, "v")),
)


def spoiled_forms():
    """Values that are GOOD but for one thing."""
    lefts, rights, first, words, last = GOOD
    for rows in [(), ((0,), (1, 0)), ((0, 1, 0), (1, 0)), ((0, 2), (1, 0)), ((0, -1), (1, 0)), ((0, True), (1, 0)),
                 ((False, 1), (1, 0)), ([0, 1], (1, 0)), [(0, 1), (1, 0)], ("01", (1, 0)), ((0, "1"), (1, 0)), ((0, 1), ()),
                 ((0, None), (1, 0)), ((0, (1,)), (1, 0)), (0, 1), "ab", None, 2, {0: (0, 1), 1: (1, 0)}, ((0, 1), None)]:
        yield rows, rights, first, words, last
        yield lefts, rows, first, words, last
    yield lefts[:1], rights, first, words, last
    yield lefts, rights[:2], first, words, last
    for state in (-1, 3, True, False, None, "0", (0,)):
        yield lefts, rights, ((state, "x"),), words, last
        yield lefts, rights, first, words, ((state, "x"),)
        yield lefts, rights, first, ((state, "a", 0, "x"),), last
        yield lefts, rights, first, ((0, "a", state, "x"),), last
    for word in ("", "X", "x y", "1", "\xe4", None, 1, ("x",), ["x"], b"x"):
        yield lefts, rights, ((0, word),), words, last
        yield lefts, rights, first, words, ((0, word),)
        yield lefts, rights, first, ((0, "a", 0, word),), last
    for symbol in ("", "c", "ab", "A", "<", None, 0, ("a",), ["a"], True):
        yield lefts, rights, first, ((0, symbol, 0, "x"),), last
    for rows in [((0, "x"), (0, "y")), ((0, "x"), (0, "x")), ((1, "x"), (0, "y")), ((0, "x", 0),), ((0,),), ([0, "x"],),
                 [(0, "x")], ("0x",), "", "x", None, 0, {0: "x"}, {}, ((),)]:
        yield lefts, rights, rows, words, last
        yield lefts, rights, first, words, rows
    for rows in [words[::-1], (words[0], *words), (words[0], words[0][:3] + ("z",)), words + words[-1:], words[1:] + words[:1],
                 list(words), tuple(map(list, words)), (words[0][:3],), (words[0] + ("x",),), ("0a1p",), "", None, 0, {},
                 ((),), ((1, "a", 2, "p"), (1, "a", 0, "r"))]:
        yield lefts, rights, first, rows, last
    for moves in ((), ((),)):
        yield moves, ((0, 0),), (), (), ()
        yield ((0, 0),), moves, (), (), ()
        yield moves, moves, (), (), ()
    yield GOOD[:4]
    yield GOOD + ((),)
    yield list(GOOD)
    yield (GOOD,)


class FormTest(unittest.TestCase):
    def test_writers(self):
        for value in [GOOD, NOTHING, OF_LAST, (((0, 0),), ((0, 0),), ((0, "abc" * 50),), (), ())]:
            self.assertIs(is_writer(COPY, value), True)
        self.assertIs(is_writer(main("right", symbols="xyz"), (((0, 0, 0),), ((0, 0, 0),), (), (), ())), True)
        self.assertIs(is_writer(main("right", symbols="xyz"), NOTHING), False)
        self.assertIs(is_writer(main("right", symbols="bc"), GOOD), False)

    def test_values_that_are_none(self):
        for value in [*spoiled_forms(), "", "abcde", *NO_STRINGS]:
            kept = copy.deepcopy(value)
            self.assertIs(is_writer(COPY, value), False, value)
            self.assertIs(shows_writer(COPY, 9, value), False, value)
            for call in (lambda: written(COPY, value, "ab"), lambda: written(COPY, value, None),
                         lambda: partings(COPY, value)):
                with self.assertRaises(BadWriter) as caught:
                    call()
                self.assertIs(caught.exception.value, value)
            self.assertEqual(value, kept)

    def test_random_writers(self):
        rnd = random.Random(10)
        for _ in range(100):
            self.assertTrue(is_writer(COPY, random_writer(rnd)))


class WrittenTest(unittest.TestCase):
    def test_by_hand(self):
        # The left states at the gaps of "abb" are 0, 0, 1, 0, the right ones 1, 0, 2, 0.
        self.assertEqual(written(COPY, GOOD, "abb"), ((4, "u"),))
        # At those of "aa" they are 0, 0, 0 and 2, 1, 0.
        self.assertEqual(written(COPY, GOOD, "aa"), ((0, "yy"), (1, "p"), (3, "u")))
        self.assertEqual(written(COPY, GOOD, ""), ((0, "x"), (1, "u")))
        self.assertEqual(written(COPY, GOOD, "b"), ((0, "yy"), (1, "q"), (2, "v")))
        self.assertEqual(written(COPY, GOOD, "ba"), ((0, "yy"), (2, "r"), (3, "v")))

    def test_random_writers_beside_an_own_reading(self):
        rnd = random.Random(11)
        for _ in range(200):
            value = random_writer(rnd, rnd.choice(["ab", "xyz"]))
            program = main("right", symbols="ab" if len(value[0][0]) == 2 else "xyz")
            value = value if is_writer(program, value) else random_writer(rnd, program.symbols)
            text = "".join(rnd.choice(program.symbols) for _ in range(rnd.randint(0, 12)))
            self.assertEqual(written(program, value, text), Own(program.symbols, value).written(text))

    def test_long_texts(self):
        text = "ab" * 50
        self.assertEqual(written(COPY, writer(COPY, 1), text), tuple(enumerate(text, start=1)))

    def test_bad_text_behind_bad_writer(self):
        for value in [*NO_STRINGS, "c", "ab "]:
            kept = copy.deepcopy(value)
            with self.assertRaises(BadText) as caught:
                written(COPY, GOOD, value)
            self.assertIs(caught.exception.value, value)
            with self.assertRaises(BadWriter):
                written(COPY, GOOD[:4], value)
            self.assertEqual(value, kept)


class PartingsTest(unittest.TestCase):
    def test_random_writers_beside_all_short_texts(self):
        rnd = random.Random(12)
        texts = all_texts("ab", 6)
        kinds = {None: 0}
        for _ in range(150):
            value = random_writer(rnd, most=4)
            if rnd.random() < 0.5:
                value = (*value[:2], value[2][:1], value[3][:2], value[4][:1])
            if rnd.random() < 0.5:
                value = with_more_states(rnd, "ab", value, 2)
            expected = Own("ab", value).partings(texts)
            found = partings(COPY, value)
            for rows, other_rows in zip(found, expected, strict=True):
                for row, other in zip(rows, other_rows, strict=True):
                    if row[2] is None or len(row[2]) <= 6:
                        self.assertEqual(row, other)
                    else:
                        self.assertEqual((*row[:2], None), other)
                    kinds[row[2] and len(row[2])] = kinds.get(row[2] and len(row[2]), 0) + 1
        self.assertLessEqual({None, "", 1, 2}, set(kinds))

    def test_states_that_always_write_the_same(self):
        value = (((1, 0), (0, 1)), ((0, 1), (0, 0)), (), ((0, "a", 0, "x"), (0, "a", 1, "x"), (1, "a", 0, "x"),
                                                         (1, "a", 1, "x")), ())
        self.assertEqual(partings(COPY, value), (((0, 1, None),), ((0, 1, None),)))
        self.assertEqual(partings(COPY, NOTHING), ((), ()))

    def test_only_right_states_that_a_text_leads_to(self):
        # The right state 1 is never met, and the left states differ in front of it alone.
        value = (((0, 0), (1, 1)), ((0, 0), (0, 0)), (), ((0, "a", 1, "x"),), ())
        self.assertEqual(partings(COPY, value), (((0, 1, None),), ((0, 1, "a"),)))
        value = (((0, 0), (1, 1)), ((0, 0), (0, 1)), (), ((1, "a", 1, "x"),), ())
        self.assertEqual(partings(COPY, value), (((0, 1, None),), ((0, 1, None),)))

    def test_long_partings(self):
        # Each left state counts down the symbols that are still to come.
        lefts = tuple((min(state + 1, 30),) * 2 for state in range(31))
        found = partings(COPY, (lefts, ((0, 0),), (), (), ((30, "x"),)))[0]
        self.assertEqual(len(found), 31 * 30 // 2)
        for one, two, text in found:
            self.assertEqual(text, "a" * (30 - two))

    def test_bad_writer(self):
        for value in ("", NOTHING[:4], list(NOTHING), None):
            with self.assertRaises(BadWriter) as caught:
                partings(COPY, value)
            self.assertIs(caught.exception.value, value)
