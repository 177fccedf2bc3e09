"""Prefixes and suffixes of texts with the descents that a run makes within them.

The letters that are written on one side of a gap, with none on the other side between them, are a
block. The counts of a prefix, for a class of suffixes behind it, tell how many descents there are
in the prefix before its first block, up to the end of its first one, and so on, for each block
that one of the suffix follows; likewise those of a suffix, for a class of prefixes in front. No
count is told above the number of the pass that is asked for: what is written later belongs to
later passes anyway.
"""

from fewgoings.tracing import is_letter

NO_COUNTS = (0,)


class Heads:
    """The cases of prefixes: (class of prefixes, counts by class of suffixes)."""

    def __init__(self, classes, number):
        self.classes = classes
        self.number = number

    def first_case(self):
        """The case of the left mark alone."""
        traces = [self.classes.trace(0, "<", suffix) for suffix in range(len(self.classes.suffixes))]
        return 0, tuple([counts_beyond(trace, NO_COUNTS, "below", self.number) for trace in traces])

    def longer(self, case, symbol):
        """The case of a prefix with a symbol behind it."""
        prefix, rows = case
        longer_rows = []
        for suffix, before in enumerate(self.classes.before):
            trace = self.classes.trace(prefix, symbol, suffix)
            longer_rows.append(counts_beyond(trace, rows[before[symbol]], "below", self.number))
        return self.classes.after[prefix][symbol], tuple(longer_rows)


class Tails:
    """The cases of suffixes: (class of suffixes, counts by class of prefixes)."""

    def __init__(self, classes, number):
        self.classes = classes
        self.number = number

    def first_case(self):
        """The case of the right mark alone."""
        traces = [self.classes.trace(prefix, ">", 0) for prefix in range(len(self.classes.prefixes))]
        return 0, tuple([counts_beyond(trace, NO_COUNTS, "above", self.number) for trace in traces])

    def longer(self, case, symbol):
        """The case of a suffix with a symbol in front of it."""
        suffix, rows = case
        longer_rows = []
        for prefix, after in enumerate(self.classes.after):
            trace = self.classes.trace(prefix, symbol, suffix)
            longer_rows.append(counts_beyond(trace, rows[after[symbol]], "above", self.number))
        return self.classes.before[suffix][symbol], tuple(longer_rows)


def counts_beyond(trace, counts, inner, most):
    """The counts of one side of a gap, out of those without the position beside the gap.

    trace is that of this position, and inner is the word in it for the rest of the side.
    """
    found = [0]
    blocks = own = 0
    in_block = False
    before = ""
    for word in trace:
        if is_letter(word) or word == inner:
            in_block = True
            blocks += 1 if word == inner else 0
            own += 1 if is_letter(word) and before == "above" else 0
        elif in_block:
            found.append(min(most, counts[blocks] + own))
            in_block = False
        before = word
    return tuple(found)


def word_of_pass(trace, lower, upper, number):
    """What a pass writes at a position with this trace, given the counts of both sides."""
    below = above = own = 0
    letters = []
    before = ""
    for word in trace:
        if word == "below":
            below += 1
        elif word == "above":
            above += 1
        else:
            own += 1 if before == "above" else 0
            if 1 + lower[below] + own + upper[above] == number:
                letters.append(word)
        before = word
    return "".join(letters)


class Counting:
    """All cases of prefixes and suffixes, and the words that one pass writes between them.

    heads has the cases of prefixes, and head_steps has for each of them, by symbol, the number of
    that with this symbol behind; tails and tail_steps are the same for suffixes, with the symbol
    in front.
    """

    def __init__(self, classes, number):
        self.classes = classes
        self.number = number
        self.heads, self.head_steps = all_cases(Heads(classes, number), classes.symbols)
        self.tails, self.tail_steps = all_cases(Tails(classes, number), classes.symbols)
        self.words = {}

    def first_word(self, tail):
        """The word at the left mark."""
        suffix, rows = self.tails[tail]
        return self.found_word(0, "<", suffix, NO_COUNTS, rows[0])

    def last_word(self, head):
        """The word at the right mark."""
        prefix, rows = self.heads[head]
        return self.found_word(prefix, ">", 0, rows[0], NO_COUNTS)

    def word_between(self, head, symbol, tail):
        """The word at a symbol between two cases."""
        prefix, head_rows = self.heads[head]
        suffix, tail_rows = self.tails[tail]
        lower = head_rows[self.classes.before[suffix][symbol]]
        upper = tail_rows[self.classes.after[prefix][symbol]]
        return self.found_word(prefix, symbol, suffix, lower, upper)

    def found_word(self, prefix, sign, suffix, lower, upper):
        """The word at a sign between two classes with these counts."""
        key = (prefix, sign, suffix, lower, upper)
        if key not in self.words:
            trace = self.classes.trace(prefix, sign, suffix)
            self.words[key] = word_of_pass(trace, lower, upper, self.number)
        return self.words[key]


def all_cases(side, symbols):
    """(cases, steps) of Heads or Tails: all cases, and for each, by symbol, the number of the longer one."""
    cases = [side.first_case()]
    numbers = {cases[0]: 0}
    steps = []
    while len(steps) < len(cases):
        case = cases[len(steps)]
        row = {}
        for symbol in symbols:
            longer = side.longer(case, symbol)
            if longer not in numbers:
                numbers[longer] = len(cases)
                cases.append(longer)
            row[symbol] = numbers[longer]
        steps.append(row)
    return cases, steps
