"""Runs of programs and chains on a text."""

from fewgoings.chains import Chain
from fewgoings.steps import first_state, step
from fewgoings.texts import check_text, marked


def run(machine, text):
    """("done", output) if the run of a program or chain ends.

    Otherwise ("ever", first, again) of a program, with the numbers of steps that lead to the first
    configuration that comes back; of a chain ("ever", 0) or ("ever", 1), which tells the one of
    both programs that does not end.
    """
    check_text(machine, text)
    if isinstance(machine, Chain):
        return run_of_chain(machine, text)
    return run_of_program(machine, text)


def configurations(program, text):
    """All (control, cells, position) of a run in turn, to the end or to the first that comes back."""
    check_text(program, text)
    signs = marked(text)
    state, position = first_state(program), 0
    seen = {}
    while state[0] and (state, position) not in seen:
        seen[state, position] = True
        yield (*state, position)
        state, move, _ = step(program, state, signs[position])
        position += move
    yield (*state, position)


def run_of_program(program, text):
    """What run returns for a program."""
    signs = marked(text)
    state, position = first_state(program), 0
    steps = {}
    output = []
    while state[0]:
        if (state, position) in steps:
            return "ever", steps[state, position], len(steps)
        steps[state, position] = len(steps)
        state, move, letter = step(program, state, signs[position])
        if letter:
            output.append((letter, position))
        position += move
    return "done", tuple(output)


def run_of_chain(chain, text):
    """What run returns for a chain."""
    first = run_of_program(chain.one, text)
    if first[0] == "ever":
        return "ever", 0
    written = first[1]
    second = run_of_program(chain.other, "".join([letter for letter, _ in written]))
    if second[0] == "ever":
        return "ever", 1
    places = [0] + [position for _, position in written] + [len(text) + 1]
    return "done", tuple([(letter, places[middle], middle) for letter, middle in second[1]])
