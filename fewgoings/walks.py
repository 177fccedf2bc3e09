"""Runs over blocks, of which each one is walked through only once from each side in each state."""

from fewgoings.blocks import Block, single
from fewgoings.states import ENDLESS, OVER
from fewgoings.tallies import at_one_place, followed

# The side and the state with which a run begins.
BEGINNING = (1, 0)


class Walk:
    """How a program, given by its States, walks through blocks.

    A way is (move, state, Tally): a run that comes into a block leaves it in this direction in this
    state, or move is 0 and the state OVER or ENDLESS. It is kept by block, direction and state.
    """

    def __init__(self, states):
        self.states = states
        self.ways = {}

    def way(self, block, move, state):
        """The way through a block that is entered by a move in a state."""
        key = (block, move, state)
        if key in self.ways:
            return self.ways[key]
        if block.sign:
            move, state, letters = self.states.visit(state, block.sign)
            tally = at_one_place(len(letters))
        else:
            stages, move, state = self.stages(block, move, state)
            tally = at_one_place(0)
            for offset, _, (_, _, more) in stages:
                tally = followed(tally, more, offset)
        self.ways[key] = (move, state, tally)
        return self.ways[key]

    def stages(self, block, move, state):
        """(stages, move, state): how a run goes through the parts of a block, and how it leaves it.

        stages has (offset, (part, move, state), way) for each part that the run comes to, in turn.
        """
        at = 0 if move == 1 else len(block.parts) - 1
        stages = []
        met = {}
        while 0 <= at < len(block.parts) and move:
            if (at, move, state) in met:
                return [], 0, ENDLESS
            met[at, move, state] = True
            offset, part = block.parts[at]
            way = self.way(part, move, state)
            stages.append((offset, (part, move, state), way))
            move, state, _ = way
            at += move
        return stages, move, state

    def ends(self, block):
        """Whether the run over a block with its marks ends."""
        return self.way(block, *BEGINNING)[1] == OVER

    def tally(self, block):
        """The Tally of the run over a block with its marks, which is of nothing if it does not end."""
        return self.way(block, *BEGINNING)[2] if self.ends(block) else at_one_place(0)

    def letters_at(self, place):
        """What is written while the run is in a block of one sign."""
        block, _, state = place
        return self.states.visit(state, block.sign)[2]

    def letter(self, block, index):
        """(letter, position) of the letter at an index of what the run over a block writes."""
        place = (block, *BEGINNING)
        position = 0
        while not place[0].sign:
            for offset, inner, (_, _, tally) in self.stages(*place)[0]:
                if index < tally.many:
                    break
                index -= tally.many
            place = inner
            position += offset
        return self.letters_at(place)[index], position


class Middle:
    """The middle texts that the first program of a chain writes in blocks, as blocks themselves."""

    def __init__(self, walk):
        self.walk = walk
        self.blocks = {}

    def block(self, place):
        """The block of what is written in (block, move, state), at the positions in that block."""
        if place in self.blocks:
            return self.blocks[place]
        parts = []
        if place[0].sign:
            parts = [(0, single(letter)) for letter in self.walk.letters_at(place)]
        else:
            for offset, inner, way in self.walk.stages(*place)[0]:
                if way[2].many > 0:
                    parts.append((offset, self.block(inner)))
        self.blocks[place] = Block("", tuple(parts), 0)
        return self.blocks[place]


def words_at(walk, block, position):
    """The (number, word) of the passes from left to right that write at a position of a block with its marks."""
    if not walk.ends(block):
        return ()
    split = split_at(block, position)
    words = {}
    tally = at_one_place(0)
    for offset, place, (_, _, more) in walk.stages(split, *BEGINNING)[0]:
        tally = followed(tally, more, offset)
        if place[0].sign and more.many > 0:
            number = tally.many_passes()
            words[number] = words.get(number, "") + walk.letters_at(place)
    return tuple(words.items())


def split_at(block, position):
    """The block with three parts, of which that in the middle is the one sign at a position."""
    before, after = [], []
    base = 0
    while not block.sign:
        for offset, part in block.parts:
            start = base + offset
            if start + part.length <= position:
                before.append((start, part))
            elif start > position:
                after.append((start - position - 1, part))
            else:
                inner, inner_base = part, start
        block, base = inner, inner_base
    # The parts behind are found from the outer ones to the inner ones.
    after = sorted(after, key=lambda row: row[0])
    ahead, behind = Block("", tuple(before), 0), Block("", tuple(after), 0)
    return Block("", ((0, ahead), (position, block), (position + 1, behind)), 0)


def outcome_and_tally(machine_states, block):
    """(outcome, Tally) of the run of a program or chain over a block with its marks.

    machine_states has the States of the program, or of both programs of a chain.
    """
    walk = Walk(machine_states[0])
    ends, tally = walk.ends(block), walk.tally(block)
    if ends and len(machine_states) > 1:
        middle = Middle(walk).block((block, *BEGINNING))
        parts = ((0, single("<")), (0, middle), (block.length - 1, single(">")))
        walk, block = Walk(machine_states[1]), Block("", parts, 0)
        ends, tally = walk.ends(block), walk.tally(block)
    return "done" if ends else "ever", tally
