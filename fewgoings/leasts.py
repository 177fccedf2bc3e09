"""Least machines that read a text symbol by symbol."""

from fewgoings.errors import TooMany


def least_states(marks, steps, symbols, most):
    """(members, moves): the least machine that tells apart the states of another one that differ.

    Two states differ if their marks do or if those do to which the same symbols lead. steps has
    for each state, by symbol, the next one. The states of the least machine are numbered as they
    are met from state 0 on; members has one of the old states for each, and moves a tuple with
    the next state for each symbol. TooMany if there are more than most.
    """
    blocks = numbered(marks)
    many = 0
    while many < max(blocks):
        many = max(blocks)
        if many >= most:
            raise TooMany(most)
        blocks = numbered([
            (block, tuple([blocks[row[symbol]] for symbol in symbols]))
            for block, row in zip(blocks, steps)
        ])
    return in_order_met(blocks, steps, symbols)


def numbered(values):
    """A number for each value, the same for equal ones, from 0 on."""
    numbers = {}
    return [numbers.setdefault(value, len(numbers)) for value in values]


def in_order_met(blocks, steps, symbols):
    """(members, moves) of the machine whose states are the blocks, renumbered as they are met."""
    members = [0]
    numbers = {blocks[0]: 0}
    moves = []
    while len(moves) < len(members):
        row = []
        for symbol in symbols:
            after = steps[members[len(moves)]][symbol]
            if blocks[after] not in numbers:
                numbers[blocks[after]] = len(members)
                members.append(after)
            row.append(numbers[blocks[after]])
        moves.append(tuple(row))
    return members, tuple(moves)
