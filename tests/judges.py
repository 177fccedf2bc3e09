"""Section 8 read condition by condition, on explicit texts, to compare with."""

from fewgoings.runs import run
from tests.brute import Keys, cost_at, cut_passes, output_on, trace_at


def closure(key, symbols, longer):
    """{key: some text} for all keys, found by adding symbols."""
    found, fresh = {key(""): ""}, [""]
    while fresh:
        text = fresh.pop(0)
        for symbol in symbols:
            if key(longer(text, symbol)) not in found:
                found[key(longer(text, symbol))] = longer(text, symbol)
                fresh.append(longer(text, symbol))
    return found


class Judge:
    """Judges tables, rings and texts for a machine, perhaps within another one."""

    def __init__(self, machine, within, turns):
        self.machine, self.turns = machine, turns
        self.machines = [machine] if within is None else [machine, within]
        keys = [Keys(each) for each in self.machines]
        self.known = {}
        self.prefix = lambda text: self.remembered("p", text, lambda: tuple(each.prefix(text) for each in keys))
        self.suffix = lambda text: self.remembered("s", text, lambda: tuple(each.suffix(text) for each in keys))
        self.tails = closure(self.suffix, machine.symbols, lambda text, symbol: symbol + text)

    def remembered(self, kind, text, found):
        if (kind, text) not in self.known:
            self.known[kind, text] = found()
        return self.known[kind, text]

    def counts(self, text):
        return all(run(each, text)[0] == "done" for each in self.machines)

    def many(self, text):
        return len(cut_passes(output_on(self.machine, text), self.turns))

    def trace(self, text, position):
        output = self.remembered("o", text, lambda: output_on(self.machine, text))
        return trace_at(output, position)

    def is_table(self, rows, many):
        """The three conditions."""
        known = [(self.prefix(prefix), self.suffix(suffix), height) for prefix, suffix, height in rows]
        looks = []

        def is_met(prefix, suffix, height, text, position):
            looks.append(self.trace(text, position))
            least = height + cost_at(looks[-1], self.turns)
            return any((p, s) == (prefix, suffix) and g >= least for p, s, g in known)

        for key, text in self.tails.items():
            if self.counts(text) and not is_met(self.prefix(""), key, 0, text, 0):
                return False
        for prefix, suffix, height in rows:
            for symbol in self.machine.symbols:
                for key, rest in self.tails.items():
                    if self.suffix(symbol + rest) == self.suffix(suffix) and not is_met(
                            self.prefix(prefix + symbol), key, height, prefix + symbol + rest, len(prefix) + 1):
                        return False
            if self.suffix(suffix) == self.suffix(""):
                looks.append(self.trace(prefix, len(prefix) + 1))
                if many > 0 and height + cost_at(looks[-1], self.turns) > many - 1:
                    return False
        return many > 0 or not any(len(word) == 1 for trace in looks for word in trace)

    def shows(self, value):
        """Whether a value of one of the described forms is shown."""
        if value is None:
            return not any(self.counts(text) for text in self.tails.values())
        if value[0] == "endless":
            _, ahead, ring, behind = value
            return (
                ring != "" and self.counts(ahead + ring + behind)
                and self.prefix(ahead) == self.prefix(ahead + ring) and self.suffix(behind) == self.suffix(ring + behind)
                and any(cost_at(self.trace(ahead + ring + behind, len(ahead) + at), self.turns)
                        for at in range(1, len(ring) + 1))
            )
        _, many, text, rows = value
        if not self.counts(text) or self.many(text) != many:
            return False
        return list(rows) == sorted(set(rows)) and self.is_table(rows, many)
