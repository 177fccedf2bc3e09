"""All classes of prefixes and suffixes, and the traces of positions between them."""

from fewgoings.errors import TooMany
from fewgoings.works import Works

MOST_CLASSES = 60


class Classes:
    """The classes of a machine, or the joint ones of several machines with the same symbols.

    A class of prefixes is told by its number in the text order of the least texts, which are in
    prefixes. after has for each class, by symbol, the class with this symbol behind. Of suffixes
    it is the same with suffixes and before, where the symbol comes in front. TooMany if there are
    more than sixty classes on a side.
    """

    def __init__(self, machines):
        self.symbols = machines[0].symbols
        self.works = [Works(machine) for machine in machines]
        heads = [works.heads for works in self.works]
        tails = [works.tails for works in self.works]
        self.prefixes, self.heads, self.after = all_rows(heads, self.symbols, MOST_CLASSES)
        self.suffixes, self.tails, self.before = all_rows(tails, self.symbols, MOST_CLASSES)
        self.splits = [[] for _ in self.suffixes]
        for rest, row in enumerate(self.before):
            for symbol in self.symbols:
                self.splits[row[symbol]].append((symbol, rest))
        self.traces = {}

    def prefix_of(self, text):
        """The class of a text as a prefix."""
        prefix = 0
        for symbol in text:
            prefix = self.after[prefix][symbol]
        return prefix

    def suffix_of(self, text):
        """The class of a text as a suffix."""
        suffix = 0
        for symbol in text[::-1]:
            suffix = self.before[suffix][symbol]
        return suffix

    def gaps(self, ahead, text, behind):
        """The classes (prefix, suffix) at each gap of a text between two others, its ends included."""
        prefixes = [self.prefix_of(ahead)]
        for symbol in text:
            prefixes.append(self.after[prefixes[-1]][symbol])
        suffixes = [self.suffix_of(behind)]
        for symbol in text[::-1]:
            suffixes.append(self.before[suffixes[-1]][symbol])
        return list(zip(prefixes, suffixes[::-1]))

    def ends(self, suffix, at):
        """Whether the run of the machine with the index at ends on the texts of a class of suffixes."""
        return self.found_trace(0, "<", suffix, at) is not None

    def trace(self, prefix, sign, suffix):
        """The trace, for the first machine, of a position between texts of two classes.

        Where sign is a mark, the class on its outer side does not matter. If the run does not end
        the trace is empty.
        """
        found = self.found_trace(prefix, sign, suffix, 0)
        return () if found is None else found

    def found_trace(self, prefix, sign, suffix, at):
        """The trace for the machine with the index at, None if its run does not end."""
        key = (prefix, sign, suffix, at)
        if key not in self.traces:
            self.traces[key] = self.works[at].trace(self.heads[prefix][at], sign, self.tails[suffix][at])
        return self.traces[key]


def all_rows(sides, symbols, most):
    """(texts, rows, longer): the least text of each class, in text order, and its rows on all sides.

    longer has for each class, by symbol, the class of the text with one more symbol. TooMany if
    there are more than most classes.
    """
    texts = [""]
    rows = [tuple([side.first_row() for side in sides])]
    longer = []
    numbers = {rows[0]: 0}
    while len(longer) < len(texts):
        level = list(range(len(longer), len(texts)))
        longer.extend([{} for _ in level])
        # The least texts of one length are met in text order only if all of them are sorted first.
        longer_ones = sorted(longer_texts(sides[0].out, texts, level, symbols))
        for text, before, symbol in longer_ones:
            row = tuple([side.longer_row(old, symbol) for side, old in zip(sides, rows[before])])
            if row not in numbers:
                numbers[row] = len(texts)
                texts.append(text)
                rows.append(row)
            longer[before][symbol] = numbers[row]
            if len(texts) > most:
                raise TooMany(most)
    return texts, rows, longer


def longer_texts(out, texts, level, symbols):
    """(text with one more symbol, number of the text without, symbol) for the texts of a level."""
    if out == 1:
        return [(texts[number] + symbol, number, symbol) for number in level for symbol in symbols]
    return [(symbol + texts[number], number, symbol) for number in level for symbol in symbols]
