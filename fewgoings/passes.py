"""How many passes one text needs, and what each of them writes."""

from fewgoings.runs import run
from fewgoings.texts import is_of_letters
from fewgoings.tracing import is_letter, trace_of


def passes(machine, text, *, turns=False):
    """A tuple of (position, word) for each pass that the output of a run needs.

    All passes go from left to right; by turns every second one goes from right to left.
    """
    found = []
    last, direction = 0, 1
    for letter, position in output_on(machine, text):
        if not found:
            found.append([])
        elif (position - last) * direction < 0:
            found.append([])
            direction = -direction if turns else 1
        add_letter(found[-1], letter, position)
        last = position
    return tuple([tuple(rows) for rows in found])


def add_letter(rows, letter, position):
    """Adds a letter to the (position, word) of a pass."""
    if rows and rows[-1][0] == position:
        rows[-1] = (position, rows[-1][1] + letter)
    else:
        rows.append((position, letter))


def output_on(machine, text):
    """The (letter, position) of a run in the order of time; none if it does not end."""
    result = run(machine, text)
    return [row[:2] for row in result[1]] if result[0] == "done" else []


def traces(machine, text):
    """A tuple with the trace of each position of a text, from that of the left mark on."""
    output = output_on(machine, text)
    return tuple([trace_in(output, position) for position in range(len(text) + 2)])


def trace_in(output, position):
    """The trace of a position in an output."""
    return trace_of([event_at(position, letter, other) for letter, other in output])


def event_at(position, letter, other):
    """The event, as seen from a position, that a letter is written at another one."""
    if other == position:
        return 0, letter
    return (-1 if other < position else 1), letter


def output_of(traces):
    """The output that has these traces, a tuple of (letter, position); None if there is none."""
    if not are_traces(traces):
        return None
    unread = Unread(traces)
    output = []
    position = unread.first_position()
    while position is not None:
        output.append((unread.take(position), position))
        position = unread.next_position(position)
    return tuple(output) if unread.is_empty() else None


def are_traces(value):
    """Whether a value is a tuple of two or more tuples of words that may stand in a trace."""
    if not isinstance(value, tuple) or len(value) < 2:
        return False
    return all([isinstance(trace, tuple) and all([is_trace_word(word) for word in trace]) for trace in value])


def is_trace_word(word):
    """Whether a value is a letter or one of the words below and above."""
    if not isinstance(word, str):
        return False
    return not is_letter(word) or (len(word) == 1 and is_of_letters(word))


class Unread:
    """The traces of all positions, each with how many of its words were read."""

    def __init__(self, traces):
        self.traces = traces
        self.read = [0] * len(traces)

    def next_word(self, position):
        """The next word of a trace, "" at its end."""
        trace = self.traces[position]
        return trace[self.read[position]] if self.read[position] < len(trace) else ""

    def take(self, position):
        """Reads the next word of a trace."""
        word = self.next_word(position)
        self.read[position] += 1
        return word

    def is_empty(self):
        """Whether all traces are read to their ends."""
        return self.read == [len(trace) for trace in self.traces]

    def first_position(self):
        """The position of the first letter, None if the traces tell none.

        Reads what the traces of the other positions say of this letter.
        """
        firsts = [self.next_word(position) for position in range(len(self.traces))]
        begun = [position for position, word in enumerate(firsts) if len(word) == 1]
        if len(begun) != 1:
            return None
        at = begun[0]
        if firsts[:at] != ["above"] * at or firsts[at + 1:] != ["below"] * (len(firsts) - at - 1):
            return None
        self.read = [0 if position == at else 1 for position in range(len(firsts))]
        return at

    def next_position(self, position):
        """The position of the letter after one that was written at a position, None if there is none.

        Reads what the traces in between say of this letter. All others said so before.
        """
        word = self.next_word(position)
        if len(word) < 2:
            return position if word else None
        move = 1 if word == "above" else -1
        at = position
        while 0 <= at < len(self.traces) and self.next_word(at) == word:
            at += move
        if not 0 <= at < len(self.traces) or len(self.next_word(at)) != 1:
            return None
        for between in range(position, at, move):
            self.take(between)
        return at
