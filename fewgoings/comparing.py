"""Whether two writers write the same, and which texts part the states of one."""

from fewgoings.graphs import least_texts
from fewgoings.texts import least_text

# In the place of two states that something different was written from.
PARTED = (-1, -1)


def write_the_same(one, other):
    """Whether two Sheets write the same words on all texts of their symbols."""
    lefts = common_pairs(one.lefts, other.lefts)
    rights = common_pairs(one.rights, other.rights)
    for right, second in rights:
        if one.first_word(right) != other.first_word(second):
            return False
    for left, second in lefts:
        if one.last_word(left) != other.last_word(second):
            return False
    return all([
        one.word_at(left, symbol, right) == other.word_at(left_of_other, symbol, right_of_other)
        for left, left_of_other in lefts for right, right_of_other in rights for symbol in one.symbols
    ])


def common_pairs(moves, other_moves):
    """The pairs of states to which some text leads in two machines."""
    found = [(0, 0)]
    met = {(0, 0): True}
    at = 0
    while at < len(found):
        state, other = found[at]
        for symbol, after in moves[state].items():
            pair = (after, other_moves[other][symbol])
            if pair not in met:
                met[pair] = True
                found.append(pair)
        at += 1
    return found


class Half:
    """One side of a Sheet, as the partings of its states need it.

    moves are those of this side, others those of the other side, marks has the words of the mark
    that this side reads last; words are by (state of this side, symbol, state of the other one).
    """

    def __init__(self, moves, others, marks, words):
        self.moves = moves
        self.others = others
        self.marks = marks
        self.words = words

    def pairs(self):
        """All pairs of two states, ascending."""
        many = len(self.moves)
        return [(one, two) for one in range(many) for two in range(one + 1, many)]

    def splits_of_others(self):
        """For each state of the other side the (symbol, state) that lead to it."""
        splits = [[] for _ in self.others]
        for state, row in enumerate(self.others):
            for symbol, after in row.items():
                splits[after].append((symbol, state))
        return splits

    def next_pair(self, pair, symbol, rest):
        """The pair behind a symbol, rest being the state of the other side there.

        PARTED if the words at the symbol differ or did before; None if the states become one.
        """
        if pair == PARTED:
            return PARTED
        one, two = pair
        if self.words.get((one, symbol, rest), "") != self.words.get((two, symbol, rest), ""):
            return PARTED
        one, two = self.moves[one][symbol], self.moves[two][symbol]
        return None if one == two else (min(one, two), max(one, two))

    def leads(self):
        """For each (pair, state of the other side) the (symbol, (pair, state)) from which a step leads to it."""
        leads = {}
        splits = self.splits_of_others()
        for pair in [*self.pairs(), PARTED]:
            for state, row in enumerate(splits):
                for symbol, rest in row:
                    after = self.next_pair(pair, symbol, rest)
                    if after is not None:
                        leads.setdefault((after, rest), []).append((symbol, (pair, state)))
        return leads

    def ends(self):
        """The (pair, state of the other side) that are parted if the text ends there."""
        ends = [(PARTED, 0)]
        for one, two in self.pairs():
            if self.marks.get(one, "") != self.marks.get(two, ""):
                ends.append(((one, two), 0))
        return ends

    def partings(self, is_left):
        """(one, two, least text that parts them or None) for all pairs."""
        texts = least_texts(self.ends(), self.leads(), is_left)
        rows = []
        for pair in self.pairs():
            found = [texts[pair, state] for state in range(len(self.others)) if (pair, state) in texts]
            rows.append((*pair, least_text(found)))
        return tuple(rows)


def left_half(sheet):
    """The Half of the left states of a Sheet."""
    return Half(sheet.lefts, sheet.rights, sheet.last, sheet.words)


def right_half(sheet):
    """The Half of the right states of a Sheet."""
    words = {(right, symbol, left): word for (left, symbol, right), word in sheet.words.items()}
    return Half(sheet.rights, sheet.lefts, sheet.first, words)
