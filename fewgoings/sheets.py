"""Writers with their rows at hand, checked and compared."""

from fewgoings.texts import is_number, is_of_letters


class Sheet:
    """A writer with its rows by what they are for.

    lefts and rights have for each state, by symbol, the next one. words has the word for each
    (left state, symbol, right state), first for each right state, last for each left state, each
    only where one is not empty.
    """

    def __init__(self, symbols, writer):
        lefts, rights, first, words, last = writer
        self.symbols = symbols
        self.lefts = [dict(zip(symbols, row)) for row in lefts]
        self.rights = [dict(zip(symbols, row)) for row in rights]
        self.first = dict(first)
        self.words = {row[:3]: row[3] for row in words}
        self.last = dict(last)

    def word_at(self, left, symbol, right):
        """The word at a symbol between two states."""
        return self.words.get((left, symbol, right), "")

    def first_word(self, right):
        """The word at the left mark."""
        return self.first.get(right, "")

    def last_word(self, left):
        """The word at the right mark."""
        return self.last.get(left, "")

    def left_of(self, text):
        """The left state that a text leads to."""
        left = 0
        for symbol in text:
            left = self.lefts[left][symbol]
        return left

    def right_of(self, text):
        """The right state that a text leads to."""
        right = 0
        for symbol in text[::-1]:
            right = self.rights[right][symbol]
        return right

    def end_word(self, prefix, right):
        """The word at the last position of a prefix, the left mark for "", in front of a right state."""
        if prefix == "":
            return self.first_word(right)
        return self.word_at(self.left_of(prefix[:-1]), prefix[-1], right)

    def words_on(self, text):
        """The words at all positions of a text."""
        lefts = [0]
        for symbol in text:
            lefts.append(self.lefts[lefts[-1]][symbol])
        rights = [0]
        for symbol in text[::-1]:
            rights.append(self.rights[rights[-1]][symbol])
        rights = rights[::-1]
        inner = [self.word_at(*place) for place in list(zip(lefts, text, rights[1:]))]
        return [self.first_word(rights[0]), *inner, self.last_word(lefts[-1])]


def has_form(symbols, value):
    """Whether a value is a writer, by its form, for texts of these symbols."""
    if not isinstance(value, tuple) or len(value) != 5:
        return False
    lefts, rights, first, words, last = value
    if not is_moves(symbols, lefts) or not is_moves(symbols, rights):
        return False
    if not is_marks(first, len(rights)) or not is_marks(last, len(lefts)):
        return False
    return is_words(symbols, words, len(lefts), len(rights))


def is_moves(symbols, value):
    """Whether a value has for each of its states a tuple of states, one for each symbol."""
    if not isinstance(value, tuple) or not value:
        return False
    return all([
        isinstance(row, tuple) and len(row) == len(symbols) and all([is_state(state, len(value)) for state in row])
        for row in value
    ])


def is_state(value, many):
    """Whether a value is one of so many states."""
    return is_number(value) and 0 <= value < many


def is_word(value):
    """Whether a value is a word that is not empty."""
    return isinstance(value, str) and value != "" and is_of_letters(value)


def is_marks(value, many):
    """Whether a value has the words of a mark: (state, word) for some of so many states."""
    if not isinstance(value, tuple):
        return False
    forms = [
        isinstance(row, tuple) and len(row) == 2 and is_state(row[0], many) and is_word(row[1])
        for row in value
    ]
    return all(forms) and is_ascending([row[0] for row in value])


def is_words(symbols, value, lefts, rights):
    """Whether a value has the words at symbols: (left, symbol, right, word) for some of so many states."""
    if not isinstance(value, tuple):
        return False
    forms = [isinstance(row, tuple) and len(row) == 4 and is_place(symbols, row, lefts, rights) for row in value]
    return all(forms) and is_ascending([row[:3] for row in value])


def is_place(symbols, row, lefts, rights):
    """Whether four values are a left state, a symbol, a right state and a word."""
    left, symbol, right, word = row
    if not isinstance(symbol, str) or len(symbol) != 1 or symbol not in symbols:
        return False
    return is_state(left, lefts) and is_state(right, rights) and is_word(word)


def is_ascending(keys):
    """Whether keys ascend, none of them twice."""
    return sorted(set(keys)) == keys
