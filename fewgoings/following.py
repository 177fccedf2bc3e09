"""What is settled of a pass while a text comes in symbol by symbol."""


class Follower:
    """Follows a writer over a text whose end is not known.

    left is the left state behind what was read, many how many positions were read. A position is
    held in groups with the others that have the same words: one for each right state that may
    come to be behind what was read. settled has the (position, word) of those settled so far, in
    the order in which they were.
    """

    def __init__(self, sheet):
        self.sheet = sheet
        self.left = 0
        self.many = 0
        self.groups = {}
        self.settled = []
        self.take([sheet.first_word(right) for right in range(len(sheet.rights))])

    def take(self, words):
        """Reads a position whose word is given for each right state behind it."""
        self.hold(tuple(words), [self.many])
        self.many += 1

    def hold(self, words, positions):
        """Puts positions into the group of their words, or settles them if all words are the same."""
        if words.count(words[0]) == len(words):
            self.settled.extend([(position, words[0]) for position in positions])
            return
        # The longer one of two lists is kept: else a long text would be copied for each symbol.
        held = self.groups.get(words, [])
        longer, shorter = (held, positions) if len(held) > len(positions) else (positions, held)
        longer.extend(shorter)
        self.groups[words] = longer

    def feed(self, symbol):
        """Reads a symbol; returns the ascending (position, word) of what is settled by it."""
        before = len(self.settled)
        moves = [row[symbol] for row in self.sheet.rights]
        groups = list(self.groups.items())
        self.groups = {}
        for words, positions in groups:
            self.hold(tuple([words[state] for state in moves]), positions)
        self.take([self.sheet.word_at(self.left, symbol, right) for right in range(len(moves))])
        self.left = self.sheet.lefts[self.left][symbol]
        return sorted(self.settled[before:])

    def close(self):
        """Reads the right mark; returns the ascending (position, word) of all that was not settled."""
        rows = [(position, words[0]) for words, positions in self.groups.items() for position in positions]
        return [*sorted(rows), (self.many, self.sheet.last_word(self.left))]
