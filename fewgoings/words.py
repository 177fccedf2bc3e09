"""What a program writes meanwhile, as far as it matters for what comes after.

Flags, Parts and Stretches sort words into classes, which have numbers; the empty word is in class 0.
"""

from fewgoings.states import ENDLESS, OVER


class Flags:
    """The classes of words that no program works on: 0 for the empty word, 1 for all others."""

    def class_of(self, letters):
        """The class of a word."""
        return 1 if letters else 0

    def joined(self, one, other):
        """The class of a word of one class with a word of another one behind it."""
        return one | other


class Parts:
    """The classes of words for one word: one for each of its parts, and the last one for all others."""

    def __init__(self, word):
        self.parts = [""]
        for start in range(len(word)):
            for end in range(start + 1, len(word) + 1):
                if word[start:end] not in self.parts:
                    self.parts.append(word[start:end])

    def class_of(self, letters):
        """The class of a word."""
        return self.parts.index(letters) if letters in self.parts else len(self.parts)

    def joined(self, one, other):
        """The class of a word of one class with a word of another one behind it."""
        if max(one, other) == len(self.parts):
            return len(self.parts)
        return self.class_of(self.parts[one] + self.parts[other])


class Stretches:
    """The classes of words that are equivalent for a program, which works on them.

    exits has for each class two tuples, for the entries from the left and for those from the
    right. An exit is (move, state, written): the run leaves the word in this direction in this
    state, or move is 0 and the state OVER or ENDLESS; written is 1 if something is written
    meanwhile, otherwise 0.
    """

    def __init__(self, states):
        self.states = states
        self.exits = []
        self.numbers = {}
        self.products = {}
        self.letters = {}
        self.words = {}
        self.number_of(self.exits_through(()))
        for symbol in states.program.symbols:
            self.letters[symbol] = self.number_of(self.exits_at(symbol))

    def number_of(self, exits):
        """The number of the class with these exits."""
        if exits not in self.numbers:
            self.numbers[exits] = len(self.exits)
            self.exits.append(exits)
        return self.numbers[exits]

    def class_of(self, letters):
        """The class of a word."""
        if letters not in self.words:
            number = 0
            for letter in letters:
                number = self.joined(number, self.letters[letter])
            self.words[letters] = number
        return self.words[letters]

    def joined(self, one, other):
        """The class of a word of one class with a word of another one behind it."""
        if (one, other) not in self.products:
            self.products[one, other] = self.number_of(self.exits_through((one, other)))
        return self.products[one, other]

    def leave(self, word, move, state):
        """The exit of a word of a class that is entered by a move in a state."""
        if move == 1:
            return self.exits[word][0][self.states.from_left[state]]
        return self.exits[word][1][self.states.from_right[state]]

    def exits_at(self, symbol):
        """The exits of a word of one letter."""
        return (
            tuple([self.exit_at(symbol, state) for state in self.states.from_left]),
            tuple([self.exit_at(symbol, state) for state in self.states.from_right]),
        )

    def exit_at(self, symbol, state):
        """The exit of a word of one letter that is entered in a state."""
        move, state, letters = self.states.visit(state, symbol)
        return move, state, 1 if letters else 0

    def exits_through(self, words):
        """The exits of words, given by their classes, one behind the other."""
        last = len(words) - 1
        return (
            tuple([self.exit_through(words, 0, 1, state) for state in self.states.from_left]),
            tuple([self.exit_through(words, last, -1, state) for state in self.states.from_right]),
        )

    def exit_through(self, words, at, move, state):
        """The exit of words one behind the other, of which one is entered by a move in a state."""
        seen = {}
        written = 0
        while 0 <= at < len(words):
            if (at, move, state) in seen:
                return 0, ENDLESS, 0
            seen[at, move, state] = True
            move, state, more = self.leave(words[at], move, state)
            written = written | more
            if state == ENDLESS:
                return 0, ENDLESS, 0
            if state == OVER:
                return 0, OVER, written
            at += move
        return move, state, written
