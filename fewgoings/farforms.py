"""The form of far texts, as values and as they are written in a journal."""

from fewgoings.errors import BadFar
from fewgoings.texts import ALPHABET, is_number

MOST_PAIRS = 6
LONGEST_PIECE = 20
MOST_TIMES = 10 ** 18
DEEPEST = 4
MOST_SYMBOLS = 10 ** 24
MOST_DIGITS = 25
DIGITS = "0123456789"


def size_of_far(symbols, value):
    """How many symbols a far text has; 0 for any value that is no far text of these symbols."""
    size = size_at(symbols, value, 1)
    return size if size <= MOST_SYMBOLS else 0


def size_at(symbols, value, depth):
    """The size of pairs at some depth, 0 if a value is none."""
    if depth > DEEPEST or not isinstance(value, tuple) or not 1 <= len(value) <= MOST_PAIRS:
        return 0
    sizes = [size_of_pair(symbols, pair, depth) for pair in value]
    return 0 if 0 in sizes else sum(sizes)


def size_of_pair(symbols, pair, depth):
    """The size of a pair at some depth, 0 if a value is none."""
    if not isinstance(pair, tuple) or len(pair) != 2:
        return 0
    piece, times = pair
    if not is_number(times) or not 1 <= times <= MOST_TIMES:
        return 0
    if not isinstance(piece, str):
        return times * size_at(symbols, piece, depth + 1)
    is_piece = len(piece) <= LONGEST_PIECE and all([sign in symbols for sign in piece])
    return times * len(piece) if is_piece else 0


def check_far(symbols, value):
    """BadFar unless a value is a far text of these symbols."""
    if size_of_far(symbols, value) == 0:
        raise BadFar(value)


def far_in_signs(far):
    """A far text as it is written in a journal."""
    rows = []
    for piece, times in far:
        rows.append(f"{piece}*{times}" if isinstance(piece, str) else f"({far_in_signs(piece)})*{times}")
    return "+".join(rows)


def far_from(text):
    """The far text that is written as in a journal, BadFar for any other value."""
    if not isinstance(text, str):
        raise BadFar(text)
    far, end = pairs_from(text, 0, 1)
    # What is no piece or no number was taken as it is, and makes no far text.
    if end != len(text) or size_of_far(ALPHABET, far) == 0:
        raise BadFar(text)
    return far


def pairs_from(text, start, depth):
    """(pairs, end): the pairs that are written from an index of a text on, and the index behind them."""
    pair, end = pair_from(text, start, depth)
    pairs = [pair]
    while text[end:end + 1] == "+":
        pair, end = pair_from(text, end + 1, depth)
        pairs.append(pair)
    return tuple(pairs), end


def pair_from(text, start, depth):
    """(pair, end) of the pair that is written from an index of a text on; BadFar if there is none."""
    piece, end = piece_from(text, start, depth)
    if text[end:end + 1] != "*":
        raise BadFar(text)
    digits = run_from(text, end + 1, DIGITS)
    return (piece, number_of(digits)), end + 1 + len(digits)


def piece_from(text, start, depth):
    """(piece, end) of the piece that is written from an index of a text on; BadFar if it is not closed."""
    if text[start:start + 1] != "(" or depth == DEEPEST:
        piece = run_from(text, start, ALPHABET)
        return piece, start + len(piece)
    piece, end = pairs_from(text, start + 1, depth + 1)
    if text[end:end + 1] != ")":
        raise BadFar(text)
    return piece, end + 1


def run_from(text, start, signs):
    """As many of some signs as stand one behind the other from an index of a text on."""
    end = start
    while end < len(text) and text[end] in signs:
        end += 1
    return text[start:end]


def number_of(word):
    """The number that a string writes, without leading zeros and with few enough digits; None for others."""
    if word == "" or run_from(word, 0, DIGITS) != word or len(word) > MOST_DIGITS:
        return None
    return None if word[0] == "0" and word != "0" else int(word)
