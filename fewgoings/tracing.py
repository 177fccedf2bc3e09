"""Traces, and what the position of a trace adds to the passes that are needed.

An event is (where, what), seen from a position: where is -1 if something is written at lesser
positions, 1 if at greater ones, what telling then whether that is so at all; 0 if the letter what
is written at the position itself.
"""

PLACES = {-1: "below", 1: "above"}


def trace_of(events):
    """The trace of a position around which these events happen, in this order."""
    trace = []
    for where, what in events:
        if where == 0:
            trace.append(what)
        elif what and trace[-1:] != [PLACES[where]]:
            trace.append(PLACES[where])
    return tuple(trace)


def is_letter(word):
    """Whether a word of a trace is a letter."""
    return word not in ("below", "above")


def cost_of(trace, turns):
    """The cost of a position with this trace, by turns or with passes from left to right."""
    return cost_by_turns(trace) if turns else len(descents(trace))


def descents(trace):
    """The indices in a trace of the letters that are descents."""
    return [at for at, word in enumerate(trace) if is_letter(word) and trace[at - 1:at] == ("above",)]


def cost_by_turns(trace):
    """How many groups of letters in a trace make another turn necessary."""
    cost = 0
    before = "below"
    in_group = False
    for word in trace:
        if is_letter(word):
            in_group = True
            continue
        if in_group and word == before:
            cost += 1
        before, in_group = word, False
    return cost
