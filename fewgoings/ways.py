"""The ways from left to right through pairs of classes, and what they cost.

A pair is (prefix, suffix), the classes of what is in front of a gap in a text and of what is
behind it. A step goes over one symbol to the next gap.
"""

from fewgoings.tracing import cost_of, is_letter


class Ways:
    """The ways of all texts that count, for the classes of a machine and perhaps of another one."""

    def __init__(self, classes, turns):
        self.classes = classes
        self.turns = turns
        self.costs = {}
        self.starts = [suffix for suffix in range(len(classes.suffixes)) if self.counts(suffix)]

    def counts(self, suffix):
        """Whether the texts of a class of suffixes count: the runs of all machines end on them."""
        return all([self.classes.ends(suffix, at) for at in range(len(self.classes.works))])

    def cost(self, prefix, sign, suffix):
        """The cost of a position between texts of two classes."""
        key = (prefix, sign, suffix)
        if key not in self.costs:
            self.costs[key] = cost_of(self.classes.trace(prefix, sign, suffix), self.turns)
        return self.costs[key]

    def first_cost(self, suffix):
        """The cost of the left mark in front of a class of suffixes."""
        return self.cost(0, "<", suffix)

    def last_cost(self, prefix):
        """The cost of the right mark behind a class of prefixes."""
        return self.cost(prefix, ">", 0)

    def steps_from(self, pair):
        """(symbol, next pair, cost) for each step from a pair."""
        prefix, suffix = pair
        after = self.classes.after[prefix]
        return [
            (symbol, (after[symbol], rest), self.cost(prefix, symbol, rest))
            for symbol, rest in self.classes.splits[suffix]
        ]

    def writes(self, suffix):
        """Whether something is written on the texts of a class of suffixes."""
        return self.classes.trace(0, "<", suffix) != ()

    def is_silent(self, prefix, sign, suffix):
        """Whether nothing is written at a position between texts of two classes."""
        trace = self.classes.trace(prefix, sign, suffix)
        return not [word for word in trace if is_letter(word)]

    def reached(self):
        """The steps of each pair that lies on the way of a text that counts."""
        found = [(0, suffix) for suffix in self.starts]
        steps = {}
        while found:
            pair = found.pop()
            if pair not in steps:
                steps[pair] = self.steps_from(pair)
                found.extend([other for _, other, _ in steps[pair]])
        return steps
