"""Single steps of a run.

A state is (control, cells). One step depends on the state and on the sign at the head alone, a
symbol or a mark.
"""

MOVES = {"right": 1, "left": -1}


def first_state(program):
    """The state with which each run of a program begins."""
    return (program.first,), (0,) * len(program.cells)


def step(program, state, sign):
    """(state, move, letter) of the next step.

    state is the one after it, move is 1 if the head goes right, -1 if it goes left, 0 if it stays,
    and letter is what is written, "" for nothing.
    """
    control, cells = state
    statement = program.statements[control[-1]]
    if ends_run(statement.word, sign):
        return ((), cells), 0, ""
    if statement.word == "do":
        return (control + (statement.given,), cells), 0, ""
    line = next_line(statement, sign, cells)
    after = (resumed(program, control[:-1], line), cells_after(program, statement, cells))
    return after, MOVES.get(statement.word, 0), letter_at(statement, sign)


def ends_run(word, sign):
    """Whether a statement ends the run by itself and not because nothing follows."""
    return word == "stop" or (word, sign) in (("right", ">"), ("left", "<"))


def next_line(statement, sign, cells):
    """The line of what comes next in the part or main of a statement, 0 for its end."""
    if statement.word not in ("if", "while"):
        return statement.follow
    body = statement.inside if holds(statement.given, sign, cells) else statement.otherwise
    return body[0].line if body else statement.follow


def holds(condition, sign, cells):
    """Whether a condition is true."""
    wanted, places, (index, value) = condition
    found = sign in places if places else cells[index] == value
    return found == wanted


def resumed(program, outer, line):
    """The control that goes on at a line within the do statements outer.

    Where the line is 0, it goes on with what follows the innermost of them that something follows.
    """
    while line == 0 and outer:
        line = program.statements[outer[-1]].follow
        outer = outer[:-1]
    return outer + (line,) if line else ()


def cells_after(program, statement, cells):
    """The values of the cells after a statement."""
    if statement.word not in ("set", "add"):
        return cells
    index, number = statement.given
    if statement.word == "add":
        number = (cells[index] + number) % (program.cells[index][1] + 1)
    return cells[:index] + (number,) + cells[index + 1:]


def letter_at(statement, sign):
    """The letter that a statement writes, "" for none."""
    if statement.word == "write":
        return statement.given
    return sign if statement.word == "copy" and sign not in "<>" else ""
