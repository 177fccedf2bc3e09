"""What each pass of a program writes, told by a pair of machines that read the text from both ends."""

from fewgoings.comparing import left_half, right_half, write_the_same
from fewgoings.counting import Counting
from fewgoings.errors import BadPass, BadWriter
from fewgoings.leasts import least_states
from fewgoings.sheets import Sheet, has_form
from fewgoings.tables import Classes
from fewgoings.texts import check_text, is_number

MOST_NUMBER = 9
MOST_STATES = 40


def is_writer(program, value):
    """Whether any value is a writer by its form, for texts of the symbols of a program."""
    return has_form(program.symbols, value)


def check_writer(program, value):
    """BadWriter unless a value is a writer by its form."""
    if not is_writer(program, value):
        raise BadWriter(value)


def written(program, writer, text):
    """The ascending tuple of the (position, word) that a writer writes on a text. BadWriter, BadText."""
    check_writer(program, writer)
    check_text(program, text)
    words = Sheet(program.symbols, writer).words_on(text)
    return tuple([(position, word) for position, word in enumerate(words) if word])


def writer(program, number):
    """The least writer of a pass from left to right, numbered from 1. BadPass, TooMany."""
    if not is_number(number) or not 1 <= number <= MOST_NUMBER:
        raise BadPass(number)
    counting = Counting(Classes([program]), number)
    symbols = program.symbols
    heads, lefts = least_states(marks_of_heads(counting, symbols), counting.head_steps, symbols, MOST_STATES)
    tails, rights = least_states(marks_of_tails(counting, symbols), counting.tail_steps, symbols, MOST_STATES)
    first = [(right, counting.first_word(tail)) for right, tail in enumerate(tails)]
    words = [
        (left, symbol, right, counting.word_between(head, symbol, tail))
        for left, head in enumerate(heads) for symbol in symbols for right, tail in enumerate(tails)
    ]
    last = [(left, counting.last_word(head)) for left, head in enumerate(heads)]
    return lefts, rights, not_empty(first), not_empty(words), not_empty(last)


def marks_of_heads(counting, symbols):
    """For each case of a prefix all words that are written directly behind it."""
    tails = range(len(counting.tails))
    marks = []
    for head in range(len(counting.heads)):
        words = [counting.word_between(head, symbol, tail) for symbol in symbols for tail in tails]
        marks.append((counting.last_word(head), tuple(words)))
    return marks


def marks_of_tails(counting, symbols):
    """For each case of a suffix all words that are written directly in front of it."""
    heads = range(len(counting.heads))
    marks = []
    for tail in range(len(counting.tails)):
        words = [counting.word_between(head, symbol, tail) for symbol in symbols for head in heads]
        marks.append((counting.first_word(tail), tuple(words)))
    return marks


def not_empty(rows):
    """The rows that end in a word that is not empty."""
    return tuple([row for row in rows if row[-1]])


def shows_writer(program, number, value):
    """Whether any value is a writer that writes on every text what a pass writes. BadPass, TooMany."""
    least = writer(program, number)
    if not is_writer(program, value):
        return False
    return write_the_same(Sheet(program.symbols, least), Sheet(program.symbols, value))


def partings(program, writer):
    """(lefts, rights): (s, t, text) for each two states, with the least text that parts them. BadWriter."""
    check_writer(program, writer)
    sheet = Sheet(program.symbols, writer)
    return left_half(sheet).partings(True), right_half(sheet).partings(False)
