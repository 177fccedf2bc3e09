"""The states of a program, and what happens while the head stays at one position."""

from fewgoings.steps import first_state, step
from fewgoings.texts import marked

# In the place of a state: the run has ended, or it goes on for ever without coming out.
OVER = -1
ENDLESS = -2


class States:
    """The states of a program, numbered from 0, the first one, on.

    steps has for each state, by sign, the next step as (state, move, letter), nothing for a state
    with the control (). from_left and from_right have the entries from the left and from the
    right, each with its index among them.
    """

    def __init__(self, program):
        self.program = program
        self.signs = marked(program.symbols)
        self.numbers = {first_state(program): 0}
        self.steps = []
        self.from_left = {}
        self.from_right = {}
        self.visits = {}
        found = list(self.numbers)
        while len(self.steps) < len(found):
            found.extend(self.add_steps(found[len(self.steps)]))

    def add_steps(self, state):
        """Adds the steps of the next state; returns the states that are met for the first time."""
        many = len(self.numbers)
        row = {}
        for sign in self.signs if state[0] else "":
            after, move, letter = step(self.program, state, sign)
            number = self.numbers.setdefault(after, len(self.numbers))
            row[sign] = (number, move, letter)
            if move == 1:
                self.from_left.setdefault(number, len(self.from_left))
            if move == -1:
                self.from_right.setdefault(number, len(self.from_right))
        self.steps.append(row)
        return list(self.numbers)[many:]

    def visit(self, state, sign):
        """(move, state, letters) from when the head comes to a sign in a state until it moves on.

        move is 0 if it does not: then the state is OVER if the run ends there, otherwise ENDLESS.
        """
        if (state, sign) not in self.visits:
            self.visits[state, sign] = self.found_visit(state, sign)
        return self.visits[state, sign]

    def found_visit(self, state, sign):
        """What visit returns, step by step."""
        letters = []
        seen = {}
        while self.steps[state]:
            if state in seen:
                return 0, ENDLESS, ""
            seen[state] = True
            state, move, letter = self.steps[state][sign]
            letters.append(letter)
            if move:
                return move, state, "".join(letters)
        return 0, OVER, "".join(letters)
