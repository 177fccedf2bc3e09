"""Runs on far texts, which are given by repetition."""

from fewgoings.blocks import block_of, marked_block
from fewgoings.chains import Chain
from fewgoings.errors import NoLetter
from fewgoings.farforms import check_far, size_of_far
from fewgoings.reading import word_of_writer
from fewgoings.states import States
from fewgoings.texts import ALPHABET, check_within, is_number
from fewgoings.walks import Walk, outcome_and_tally, words_at
from fewgoings.writers import check_writer


def far_length(far):
    """How many symbols a far text has, which may be any letters. BadFar."""
    check_far(ALPHABET, far)
    return size_of_far(ALPHABET, far)


def far_outcome(machine, far):
    """The outcome of the run on a far text, "done" or "ever". BadFar."""
    return run_over(machine, far)[0]


def far_many(machine, far):
    """How many letters are written on a far text. BadFar."""
    return run_over(machine, far)[1].many


def far_passes(machine, far, *, turns=False):
    """How many passes a far text needs, from left to right or by turns. BadFar."""
    tally = run_over(machine, far)[1]
    return tally.many_turns() if turns else tally.many_passes()


def run_over(machine, far):
    """(outcome, Tally) of the run on a far text."""
    check_far(machine.symbols, far)
    programs = [machine.one, machine.other] if isinstance(machine, Chain) else [machine]
    return outcome_and_tally([States(program) for program in programs], marked_block(block_of(far)))


def far_written(program, far, index):
    """(letter, position) of the letter at an index of the output. BadFar, NoLetter."""
    check_far(program.symbols, far)
    walk = Walk(States(program))
    block = marked_block(block_of(far))
    if not is_number(index) or not 0 <= index < walk.tally(block).many:
        raise NoLetter(index)
    return walk.letter(block, index)


def far_words(program, far, position):
    """The ascending tuple of the (number, word) of the passes that write at a position. BadFar, BadPosition."""
    check_far(program.symbols, far)
    block = marked_block(block_of(far))
    check_within(position, 0, block.length - 1)
    return words_at(Walk(States(program)), block, position)


def far_word(program, writer, far, position):
    """The word that a writer writes at a position of a far text. BadFar, BadWriter, BadPosition."""
    check_far(program.symbols, far)
    check_writer(program, writer)
    block = marked_block(block_of(far))
    check_within(position, 0, block.length - 1)
    return word_of_writer(program.symbols, writer, block, position)
