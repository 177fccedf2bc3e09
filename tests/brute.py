"""What the document defines over all texts, worked out on explicit texts, to compare with.

Nothing here composes anything: each prefix, suffix and word is walked over symbol by symbol.
"""

import itertools

from fewgoings.chains import Chain
from fewgoings.runs import run
from fewgoings.steps import first_state, step


def all_texts(symbols, most):
    """All texts of at most that many symbols, in text order."""
    return ["".join(signs) for many in range(most + 1) for signs in itertools.product(symbols, repeat=many)]


def in_text_order(texts):
    return sorted(texts, key=lambda text: (len(text), text))


def states_of(program):
    """All states, in any order."""
    found, fresh = {first_state(program)}, [first_state(program)]
    while fresh:
        state = fresh.pop()
        for sign in f"<{program.symbols}>" if state[0] else "":
            after = step(program, state, sign)[0]
            if after not in found:
                found.add(after)
                fresh.append(after)
    return found


def entries(program, wanted):
    """The entries from the left (wanted is 1) or from the right (-1), sorted."""
    found = set()
    for state in states_of(program):
        for sign in f"<{program.symbols}>" if state[0] else "":
            after, move, _ = step(program, state, sign)
            if move == wanted:
                found.add(after)
    return sorted(found)


def stretch(program, signs, state, position):
    """("out", move, state, letters), ("ended", letters) or ("never",) of a run over signs that may have marks."""
    seen, letters = set(), []
    while 0 <= position < len(signs):
        if not state[0]:
            return "ended", "".join(letters)
        if (state, position) in seen:
            return ("never",)
        seen.add((state, position))
        state, move, letter = step(program, state, signs[position])
        letters.append(letter)
        position += move
    return "out", 1 if position > 0 else -1, state, "".join(letters)


def shortened(case, judge):
    """A case with what judge says of its letters in their place."""
    return case if case == ("never",) else (*case[:-1], judge(case[-1]))


def word_key(program, word):
    """What is equal just for words that are equivalent for a program."""
    rows = []
    for move, start in ((1, 0), (-1, len(word) - 1)):
        for state in entries(program, move):
            case = stretch(program, word, state, start) if word else ("out", move, state, "")
            rows.append(shortened(case, bool))
    return tuple(rows)


def judge_of(machine):
    if not isinstance(machine, Chain):
        return bool
    known = {}

    def judge(letters):
        if letters not in known:
            known[letters] = word_key(machine.other, letters)
        return known[letters]
    return judge


class Keys:
    """Keys of prefixes and suffixes that are equal just for equivalent ones."""

    def __init__(self, machine):
        self.program = machine.one if isinstance(machine, Chain) else machine
        self.judge = judge_of(machine)
        self.from_left = entries(self.program, 1)
        self.from_right = entries(self.program, -1)

    def prefix(self, text):
        signs = "<" + text
        cases = [stretch(self.program, signs, first_state(self.program), 0)]
        cases += [stretch(self.program, signs, state, len(text)) for state in self.from_right]
        return tuple(shortened(case, self.judge) for case in cases)

    def suffix(self, text):
        cases = [stretch(self.program, text + ">", state, 0) for state in self.from_left]
        return tuple(shortened(case, self.judge) for case in cases)


def least_by(key, texts):
    """{key: least text} for texts in text order."""
    found = {}
    for text in texts:
        found.setdefault(key(text), text)
    return found


def output_on(machine, text):
    """The (letter, position) that count as written."""
    result = run(machine, text)
    return [row[:2] for row in result[1]] if result[0] == "done" else []


def cut_passes(output, turns):
    """The passes that an output is cut into, as (position, word), by sections of equal direction."""
    found, rest, rising = [], list(output), True
    while rest:
        many = 1
        while many < len(rest) and (
                rest[many - 1][1] <= rest[many][1] if rising else rest[many - 1][1] >= rest[many][1]):
            many += 1
        groups = itertools.groupby(rest[:many], key=lambda row: row[1])
        found.append(tuple((position, "".join(letter for letter, _ in rows)) for position, rows in groups))
        rest = rest[many:]
        rising = not rising if turns else True
    return tuple(found)


def trace_at(output, position):
    """The trace of a position, by grouping the output."""
    words = []
    for letter, other in output:
        words.append(letter if other == position else "below" if other < position else "above")
    return tuple(word for at, word in enumerate(words) if len(word) == 1 or words[at - 1:at] != [word])


def cost_at(trace, turns):
    """The cost of a position with a trace, as the document counts it."""
    if not turns:
        return sum(before == "above" and len(word) == 1 for before, word in zip(trace, trace[1:]))
    joined = "".join({"below": "<", "above": ">"}.get(word, "x") for word in trace)
    while "xx" in joined:
        joined = joined.replace("xx", "x")
    return sum(joined[at:at + 3] in ("<x<", ">x>") for at in range(len(joined))) + joined.startswith("x<")
