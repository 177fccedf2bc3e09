"""How a program or chain works, as seen from one position of a text."""

from fewgoings.chains import Chain
from fewgoings.sides import Side
from fewgoings.states import OVER, States
from fewgoings.tracing import trace_of
from fewgoings.words import Flags, Stretches


class Works:
    """The rows of the prefixes and suffixes of a machine, and the traces of what stands between.

    states are those of the program that reads the text. heads and tails are the Sides of the
    prefixes and suffixes. An event is as in tracing.py, but that a class of words may stand for
    what is written elsewhere.
    """

    def __init__(self, machine):
        self.is_chain = isinstance(machine, Chain)
        self.states = States(machine.one if self.is_chain else machine)
        self.words = Stretches(States(machine.other)) if self.is_chain else Flags()
        self.heads = Side(self.states, self.words, 1)
        self.tails = Side(self.states, self.words, -1)

    def trace(self, head, sign, tail):
        """The trace of a position between a prefix and a suffix with these rows; None for an endless run.

        Where sign is the left mark there is no head, and no tail where it is the right mark.
        """
        events = self.events(head, sign, tail)
        if events is not None and self.is_chain:
            events = self.events_of_other(events, sign)
        return None if events is None else trace_of(events)

    def events(self, head, sign, tail):
        """The events of the program that reads the text; None if its run does not end."""
        move, state, word = (1, 0, 0) if sign == "<" else head[-1]
        events = [(-1, word)]
        seen = {}
        while move and state not in seen:
            seen[state] = True
            move, state, letters = self.states.visit(state, sign)
            events.extend([(0, letter) for letter in letters])
            if move:
                where = move
                side, row = (self.tails, tail) if move == 1 else (self.heads, head)
                move, state, word = row[side.entries[state]]
                events.append((where, word))
        return events if state == OVER else None

    def events_of_other(self, events, sign):
        """The events of the second program of a chain; None if its run does not end.

        It works on what the first one writes, with the marks, which count as written at those of
        the text.
        """
        blocks = [(0 if sign == "<" else -1, "<"), *events, (0 if sign == ">" else 1, ">")]
        found = []
        seen = {}
        at, move, state = 0, 1, 0
        while move and (at, move, state) not in seen:
            seen[at, move, state] = True
            where, what = blocks[at]
            if isinstance(what, str):
                move, state, letters = self.words.states.visit(state, what)
                found.extend([(where, letter) for letter in letters])
            else:
                move, state, written = self.words.leave(what, move, state)
                found.append((where, written))
            at += move
        return found if state == OVER else None
