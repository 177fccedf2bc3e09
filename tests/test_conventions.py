"""Section 2, as far as it speaks of all functions alike."""

import copy
import unittest

from fewgoings.chains import Chain
from fewgoings.classes import prefix_of, prefixes, suffix_of, suffixes
from fewgoings.desk import Desk
from fewgoings.enders import count, ender, leading
from fewgoings.errors import PassError
from fewgoings.fars import far_many, far_outcome, far_passes, far_word, far_words, far_written
from fewgoings.journals import read_far, read_journal, recover, show_far, stored
from fewgoings.needing import nearest, needs, shows_needs
from fewgoings.pages import Page
from fewgoings.passes import output_of, passes, traces
from fewgoings.programs import Program
from fewgoings.readers import Reader
from fewgoings.runs import run
from fewgoings.sames import lean, same, shows_same
from fewgoings.sights import lookahead, shows_lookahead
from fewgoings.writers import is_writer, partings, shows_writer, writer, written
from tests.samples import LAST, MANY_PREFIXES, THREE_BACK, TURN, TWICE


def calls_on(machine, within):
    """Calls of the functions that take any machine."""
    text = machine.symbols * 2
    return [
        lambda: run(machine, text), lambda: passes(machine, text), lambda: passes(machine, text, turns=True),
        lambda: traces(machine, text), lambda: output_of(traces(machine, text)), lambda: prefixes(machine),
        lambda: suffixes(machine), lambda: prefix_of(machine, text), lambda: suffix_of(machine, text),
        lambda: needs(machine), lambda: needs(machine, within=within, turns=True),
        lambda: shows_needs(machine, needs(machine, within=within), within=within), lambda: shows_needs(machine, [machine]),
        lambda: nearest(machine, text, 1), lambda: nearest(machine, text, 1, turns=True), lambda: nearest(machine, text, None),
        lambda: same(machine, within), lambda: same(within, machine), lambda: shows_same(machine, within, same(machine, within)),
        lambda: shows_same(machine, within, [machine]), lambda: ender(machine), lambda: count(machine, "done", 50),
        lambda: count(machine, "ever", True), lambda: count(machine, machine, 5),
        lambda: far_outcome(machine, ((text, 10 ** 9),)), lambda: far_many(machine, ((text, 10 ** 9),)),
        lambda: far_passes(machine, ((text, 10 ** 9),)), lambda: far_passes(machine, ((text, 10 ** 9),), turns=True),
    ]


def calls_on_program(program):
    """Calls of the functions that take a program alone."""
    text = program.symbols * 2
    return [
        lambda: writer(program, 1), lambda: writer(program, 9), lambda: writer(program, 0),
        lambda: written(program, writer(program, 1), text), lambda: written(program, writer(program, 1), 5),
        lambda: is_writer(program, writer(program, 2)), lambda: is_writer(program, text),
        lambda: shows_writer(program, 2, writer(program, 2)), lambda: partings(program, writer(program, 2)),
        lambda: partings(program, ()), lambda: lookahead(program, 1), lambda: lookahead(program, 3),
        lambda: lookahead(program, "1"), lambda: shows_lookahead(program, 1, lookahead(program, 1)),
        lambda: shows_lookahead(program, 2, [program]), lambda: lean(program), lambda: leading(program, "ab"),
        lambda: leading(program, "x"), lambda: leading(program, 5), lambda: read_through(program, 1, text),
        lambda: read_through(program, 2, text + "?"), lambda: far_written(program, ((text, 10 ** 9),), 10 ** 9),
        lambda: far_words(program, ((text, 10 ** 9),), 10 ** 9), lambda: far_words(program, ((text, 5),), -1),
        lambda: far_word(program, writer(program, 1), ((text, 10 ** 9),), 10 ** 9), lambda: asked_of_page(program, text),
    ]


def asked_of_page(program, text):
    """Some of what a page tells after some edits."""
    page = Page(program)
    numbers = [page.put(1, ((text, 10 ** 9),)), page.put(5, ((text, 3),))]
    page.strike(2, 3)
    found = [page.length, page.slices, page.outcome, page.many, page.passes, page.turns, page.words((0, 0)), page.touched((0, 0))]
    other, lost = recover(stored(page))
    return [numbers, found, page.journal, stored(page), page == other, page == read_journal(page.journal), lost,
            Desk(page.journal).say("passes"), show_far(read_far("ab*3"))]


def read_through(program, number, text):
    """All that a reader tells of a text."""
    reader = Reader(program, number)
    rows = [reader.told, *[(reader.feed(symbol), reader.told, reader.held) for symbol in text]]
    return rows + [reader.move(program, number), reader.close(), reader.told, reader.text]


def outcome(call):
    try:
        return call()
    except PassError as error:
        return error.__class__, error.value


class ConventionsTest(unittest.TestCase):
    def test_equal_calls_give_equal_results_and_nothing_is_changed(self):
        programs = [Program(text) for text in (TURN, TWICE, LAST, THREE_BACK, MANY_PREFIXES)]
        machines = [*programs, Chain(programs[0], programs[1])]
        for machine in machines:
            within = copy.deepcopy(machine)
            kept = copy.deepcopy(machine)
            calls = calls_on(machine, within) + (calls_on_program(machine) if isinstance(machine, Program) else [])
            first = [outcome(call) for call in calls]
            again = [outcome(call) for call in reversed(calls)]
            self.assertEqual(first, again[::-1])
            for one in (machine, within):
                self.assertEqual(one, kept)
                for name in set(vars(kept)) - {"statements", "one", "other"}:
                    self.assertEqual(getattr(one, name), getattr(kept, name))

    def test_returned_sequences_are_tuples(self):
        def check(value):
            self.assertNotIsInstance(value, (list, dict, set))
            for part in value if isinstance(value, tuple) else ():
                check(part)

        turn, twice, last = Program(TURN), Program(TWICE), Program(LAST)
        reader = Reader(turn, 2)
        fed = [reader.feed("a"), reader.feed("b"), reader.told, reader.held, reader.move(turn, 2), reader.close(), reader.told]
        page = Page(twice)
        page.put(1, (("ab", 3),))
        asked = [page.slices, page.identity(1), page.written(0), page.words((0, 0)), page.journal, read_far("(ab*3)*4"),
                 far_words(twice, (("ab", 3),), 2), far_written(twice, (("ab", 3),), 2), recover(stored(page))]
        for value in [passes(twice, "ab"), traces(twice, "ab"), output_of(traces(twice, "ab")), prefixes(turn),
                      suffixes(turn), needs(turn), needs(twice), nearest(twice, "ab", 2), writer(turn, 2),
                      written(turn, writer(turn, 1), "ab"), partings(turn, writer(turn, 2)), lookahead(turn, 1),
                      lookahead(last, 1), lookahead(last, 2), same(turn, turn), same(turn, twice), lean(turn), ender(turn),
                      leading(turn, "ab"), *fed, *asked]:
            self.assertIsInstance(value, tuple)
            check(value)
