"""The least text with few replaced symbols that needs no more than some passes."""


class Nearing:
    """What can become of a text by replacing symbols, as far as the costs stay small enough.

    rests has for each gap of the text, from that in front of the first symbol on, by the class of
    what comes to be in front of it and by the class of what comes to be behind it, a list of
    (changes, cost): so many replacements behind the gap suffice for so small a cost of the
    positions behind it. Changes ascend and costs descend.
    """

    def __init__(self, ways, text, most):
        self.ways = ways
        self.classes = ways.classes
        self.text = text
        # The costs of all positions of a text come to one less than the passes that it needs.
        self.budget = max(most - 1, 0)
        self.starts = [suffix for suffix in ways.starts if most > 0 or not ways.writes(suffix)]
        levels = self.prefix_levels()
        self.rests = [self.last_rests(levels[-1])]
        for at in range(len(text) - 1, -1, -1):
            self.rests.append(self.longer_rests(levels[at], text[at], self.rests[-1]))
        self.rests = self.rests[::-1]

    def prefix_levels(self):
        """The classes of prefixes of each length up to that of the text."""
        levels = [[0]]
        for _ in self.text:
            longer = [after for prefix in levels[-1] for after in list(self.classes.after[prefix].values())]
            levels.append(sorted(set(longer)))
        return levels

    def last_rests(self, prefixes):
        """The rests for the last gap."""
        costs = {prefix: self.ways.last_cost(prefix) for prefix in prefixes}
        return {prefix: {0: [(0, costs[prefix])]} for prefix in prefixes if costs[prefix] <= self.budget}

    def longer_rests(self, prefixes, old, behind):
        """The rests for a gap with the classes of prefixes there, the symbol behind it and the rests behind that."""
        rests = {}
        for prefix in prefixes:
            tables = {}
            for symbol in self.classes.symbols:
                change = 0 if symbol == old else 1
                for rest, row in behind.get(self.classes.after[prefix][symbol], {}).items():
                    table = tables.setdefault(self.classes.before[rest][symbol], {})
                    step = self.ways.cost(prefix, symbol, rest)
                    self.add_to(table, [(changes + change, cost + step) for changes, cost in row])
            rests[prefix] = {suffix: useful(table) for suffix, table in tables.items() if table}
        return rests

    def add_to(self, table, row):
        """Keeps in a table the least cost for each number of changes, if it is small enough."""
        for changes, cost in row:
            if cost <= self.budget:
                table[changes] = min(cost, table.get(changes, cost))

    def nearest(self):
        """(changes, text) with the fewest changes and the least text; None if no text will do."""
        rest = self.rests[0].get(0, {})
        spent = {suffix: self.ways.first_cost(suffix) for suffix in self.starts if suffix in rest}
        fits = [
            changes for suffix, before in spent.items()
            for changes, cost in rest[suffix] if before + cost <= self.budget
        ]
        return (min(fits), self.least_text(min(fits), spent)) if fits else None

    def least_text(self, changes, spent):
        """The least text with the fewest changes; spent has the cost of the left mark by classes of suffixes."""
        text = ""
        prefix = 0
        for at, old in enumerate(self.text):
            for symbol in self.classes.symbols:
                left = changes - (0 if symbol == old else 1)
                rest = self.rests[at + 1].get(self.classes.after[prefix][symbol], {})
                longer = self.spent_behind(prefix, symbol, rest, spent)
                if self.suffices(left, rest, longer):
                    break
            changes, spent = left, longer
            prefix = self.classes.after[prefix][symbol]
            text += symbol
        return text

    def spent_behind(self, prefix, symbol, rest, spent):
        """What the positions up to a symbol cost, by the classes of what comes to be behind it."""
        longer = {}
        for suffix in rest:
            before = self.classes.before[suffix][symbol]
            if before in spent:
                longer[suffix] = spent[before] + self.ways.cost(prefix, symbol, suffix)
        return longer

    def suffices(self, changes, rest, spent):
        """Whether just so many changes suffice behind a gap, where spent is the cost up to there."""
        return any([
            many == changes and spent[suffix] + cost <= self.budget
            for suffix in spent for many, cost in rest[suffix]
        ])


def useful(table):
    """The (changes, cost) of a table that no other one with fewer changes makes useless, ascending."""
    row = []
    for changes in sorted(table):
        if not row or table[changes] < row[-1][1]:
            row.append((changes, table[changes]))
    return row
