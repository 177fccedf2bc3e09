"""Which runs end, and which texts lead to an output."""

from fewgoings.errors import BadLength, BadOutcome, BadWord
from fewgoings.leasts import least_states
from fewgoings.sides import Side
from fewgoings.states import OVER, States
from fewgoings.tables import Classes, all_rows
from fewgoings.texts import is_number, is_of_letters
from fewgoings.words import Parts

LONGEST_WORD = 6
LONGEST = 100
MOST_OF_WORD = 200


def ender(machine):
    """(moves, outcomes): the least machine that tells of a text whether the run ends. TooMany."""
    classes = Classes([machine])
    ends = [classes.found_trace(prefix, ">", 0, 0) is not None for prefix in range(len(classes.prefixes))]
    members, moves = least_states(ends, classes.after, classes.symbols, len(ends))
    return moves, tuple(["done" if ends[prefix] else "ever" for prefix in members])


def count(machine, outcome, length):
    """The number of texts of a length on which a run has an outcome. BadOutcome, BadLength, TooMany."""
    if outcome not in ("done", "ever"):
        raise BadOutcome(outcome)
    if not is_number(length) or not 0 <= length <= LONGEST:
        raise BadLength(length)
    moves, outcomes = ender(machine)
    ways = {0: 1}
    for _ in range(length):
        ways = longer_ways(moves, ways)
    return sum([many for state, many in ways.items() if outcomes[state] == outcome])


def longer_ways(moves, ways):
    """How many texts lead to each state, given how many of one symbol less do."""
    longer = {}
    for state, many in ways.items():
        for after in moves[state]:
            longer[after] = longer.get(after, 0) + many
    return longer


def leading(program, word):
    """(many, text): how many texts lead to an output with the letters of a word, and the least one.

    many is None for infinitely many, text is None if there is none. BadWord, TooMany.
    """
    if not isinstance(word, str) or len(word) > LONGEST_WORD or not is_of_letters(word):
        raise BadWord(word)
    parts = Parts(word)
    side = Side(States(program), parts, 1)
    texts, rows, longer = all_rows([side], program.symbols, MOST_OF_WORD)
    wanted = (0, OVER, parts.class_of(word))
    ends = [side.longer_row(row[0], ">")[-1] == wanted for row in rows]
    found = [text for text, fits in zip(texts, ends) if fits]
    moves = [list(row.values()) for row in longer]
    return many_leading(moves, ends), found[0] if found else None


def many_leading(moves, ends):
    """How many texts lead from state 0 to one of the ends, None for infinitely many."""
    total = 0
    ways = {0: 1}
    for _ in moves:
        total += sum([many for state, many in ways.items() if ends[state]])
        ways = longer_ways(moves, ways)
    # A text with as many symbols as there are states comes by one of them twice.
    for _ in moves:
        if [state for state in ways if ends[state]]:
            return None
        ways = longer_ways(moves, ways)
    return total
