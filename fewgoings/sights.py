"""How many symbols a pass must see ahead."""

from fewgoings.graphs import least_texts
from fewgoings.sheets import Sheet
from fewgoings.texts import is_number, is_text
from fewgoings.writers import writer


def lookahead(program, number):
    """How many symbols behind a position decide what a pass writes there. BadPass, TooMany.

    ("sees", 0, None); ("sees", many, (prefix, one, other)) with two suffixes that agree in one
    symbol less and give different words; or ("endless", prefix, common, ring, one, other).
    """
    sight = Sight(Sheet(program.symbols, writer(program, number)))
    many = sight.least()
    if many is None:
        return ("endless",) + sight.ring()
    return "sees", many, sight.parting(many - 1) if many else None


class Sight:
    """The pairs of suffixes that are the same up to some symbol, told by their right states.

    prefixes has a text for each left state and each symbol behind it, and that of the left mark;
    words has for each right state what is written at the last positions of these prefixes. levels
    has for each number of symbols, from 0 on, the pairs of different states to which two suffixes
    lead that agree in so many symbols: each with the foremost symbol and the pair behind that.
    There is one level more than the lookahead, or, if there is none, one that is like that before.
    """

    def __init__(self, sheet):
        self.sheet = sheet
        self.prefixes = [""]
        for text in texts_to(sheet.lefts, False):
            self.prefixes.extend([text + symbol for symbol in sheet.symbols])
        states = range(len(sheet.rights))
        self.words = [[sheet.end_word(prefix, state) for prefix in self.prefixes] for state in states]
        self.levels = [{(one, other): ("", (one, other)) for one in states for other in states if one != other}]
        while self.parted_at(-1) is not None and not self.is_stable():
            self.levels.append(self.next_level())

    def parted_at(self, level):
        """A pair of a level with different words, None if there is none."""
        for one, other in self.levels[level]:
            if self.words[one] != self.words[other]:
                return one, other
        return None

    def is_stable(self):
        """Whether the last level has the pairs of the one before, and so would all that follow."""
        return len(self.levels) > 1 and len(self.levels[-1]) == len(self.levels[-2])

    def next_level(self):
        """The level behind the last one."""
        level = {}
        for one, other in self.levels[-1]:
            for symbol in self.sheet.symbols:
                pair = (self.sheet.rights[one][symbol], self.sheet.rights[other][symbol])
                if pair[0] != pair[1]:
                    level[pair] = (symbol, (one, other))
        return level

    def least(self):
        """The lookahead, None if it is endless."""
        return len(self.levels) - 1 if self.parted_at(-1) is None else None

    def prefix_for(self, pair):
        """A prefix at whose end the words of a pair differ."""
        rows = list(zip(self.prefixes, self.words[pair[0]], self.words[pair[1]]))
        return [prefix for prefix, word, other in rows if word != other][0]

    def parting(self, many):
        """(prefix, one, other): two suffixes that agree in so many symbols and give different words."""
        pair = self.parted_at(many)
        prefix = self.prefix_for(pair)
        common = ""
        for level in self.levels[many:0:-1]:
            symbol, pair = level[pair]
            common += symbol
        texts = texts_to(self.sheet.rights, True)
        return prefix, common + texts[pair[0]], common + texts[pair[1]]

    def ring(self):
        """(prefix, common, ring, one, other), where the lookahead is endless."""
        pair = self.parted_at(-1)
        prefix = self.prefix_for(pair)
        signs = ""
        met = {}
        while pair not in met:
            met[pair] = len(signs)
            symbol, pair = self.levels[-1][pair]
            signs += symbol
        texts = texts_to(self.sheet.rights, True)
        return prefix, signs[:met[pair]], signs[met[pair]:], texts[pair[0]], texts[pair[1]]


def texts_to(moves, put_in_front):
    """The least text that leads from state 0 to each state, in the order of the states."""
    leads = {state: list(row.items()) for state, row in enumerate(moves)}
    texts = least_texts([0], leads, put_in_front)
    return [texts[state] for state in range(len(moves))]


def shows_lookahead(program, number, value):
    """Whether any value is something that lookahead may return, with any texts. BadPass, TooMany."""
    sheet = Sheet(program.symbols, writer(program, number))
    if not isinstance(value, tuple) or len(value) not in (3, 6):
        return False
    if len(value) == 3:
        return value[0] == "sees" and is_number(value[1]) and sees(program, sheet, value[1], value[2])
    return value[0] == "endless" and sees_endless(program, sheet, value[1:])


def sees(program, sheet, many, texts):
    """Whether a number is the lookahead, and a value shows that one symbol less would not do."""
    if many != Sight(sheet).least():
        return False
    if many == 0:
        return texts is None
    if not are_texts(program, texts, 3):
        return False
    prefix, one, other = texts
    return agree(one, other, many - 1) and differ(sheet, prefix, one, other)


def sees_endless(program, sheet, texts):
    """Whether five values show that no number of symbols will do."""
    if not are_texts(program, texts, 5):
        return False
    prefix, common, ring, one, other = texts
    if ring == "" or not differ(sheet, prefix, common + one, common + other):
        return False
    return all([sheet.right_of(ring + text) == sheet.right_of(text) for text in (one, other)])


def are_texts(program, value, many):
    """Whether a value is a tuple of so many texts."""
    return isinstance(value, tuple) and len(value) == many and all([is_text(program, text) for text in value])


def agree(one, other, many):
    """Whether two suffixes agree in so many symbols."""
    # Where one of them has fewer symbols, these are the same only if both suffixes are.
    return one[:many] == other[:many]


def differ(sheet, prefix, one, other):
    """Whether two suffixes give different words at the last position of a prefix."""
    return sheet.end_word(prefix, sheet.right_of(one)) != sheet.end_word(prefix, sheet.right_of(other))
