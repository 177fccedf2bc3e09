"""Whether two machines do the same on all texts, and which statements of a program do nothing."""

from fewgoings.errors import BadProgram, OtherSymbols, TooMany
from fewgoings.passes import output_on
from fewgoings.programs import Program
from fewgoings.runs import run
from fewgoings.tables import Classes
from fewgoings.texts import is_text, least_text


def same(one, other):
    """("same", prefixes, suffixes) if two machines do the same on all texts. OtherSymbols, TooMany.

    Otherwise ("other", text) with the least text on which the outcomes or the outputs differ.
    """
    classes = joint_classes(one, other)
    texts = differing_texts(classes)
    if texts:
        return "other", least_text(texts)
    return "same", tuple(classes.prefixes), tuple(classes.suffixes)


def joint_classes(one, other):
    """The joint classes of two machines."""
    if one.symbols != other.symbols:
        raise OtherSymbols(other)
    return Classes([one, other])


def differing_texts(classes):
    """The least text for each place between two classes at which the traces of two machines differ."""
    prefixes = list(enumerate(classes.prefixes))
    suffixes = list(enumerate(classes.suffixes))
    texts = [text for suffix, text in suffixes if is_other_at(classes, 0, "<", suffix)]
    texts.extend([text for prefix, text in prefixes if is_other_at(classes, prefix, ">", 0)])
    for prefix, text in prefixes:
        for symbol in classes.symbols:
            for suffix, rest in suffixes:
                if is_other_at(classes, prefix, symbol, suffix):
                    texts.append(text + symbol + rest)
    return texts


def is_other_at(classes, prefix, sign, suffix):
    """Whether two machines have different traces between two classes, or one of them alone does not end."""
    return classes.found_trace(prefix, sign, suffix, 0) != classes.found_trace(prefix, sign, suffix, 1)


def shows_same(one, other, value):
    """Whether any value is something that same may return, with any texts. OtherSymbols, TooMany."""
    classes = joint_classes(one, other)
    if not isinstance(value, tuple) or len(value) not in (2, 3):
        return False
    if len(value) == 2:
        return value[0] == "other" and is_text(one, value[1]) and differ_on(one, other, value[1])
    if value[0] != "same" or not are_texts(one, value[1]) or not are_texts(one, value[2]):
        return False
    # Each class is that of "" with some symbols added: what is closed has members of all classes.
    prefixes = {classes.prefix_of(text): True for text in value[1]}
    suffixes = {classes.suffix_of(text): True for text in value[2]}
    if len(prefixes) < len(classes.prefixes) or len(suffixes) < len(classes.suffixes):
        return False
    return not differing_texts(classes)


def are_texts(machine, value):
    """Whether a value is a tuple of texts."""
    return isinstance(value, tuple) and all([is_text(machine, text) for text in value])


def differ_on(one, other, text):
    """Whether the outcomes or the outputs of two machines differ on a text."""
    return run(one, text)[0] != run(other, text)[0] or output_on(one, text) != output_on(other, text)


def lean(program):
    """(text, steps): what is left of a program without the statements that do nothing.

    steps has (line, result) for each statement, the last line first: result is what same says of
    the program without it and with it, None if there would be no program, "many" for TooMany.
    """
    lines = program.text.split("\n")
    kept = {number: True for number in range(1, len(lines) + 1)}
    present = program
    steps = []
    for line in sorted(list(program.statements), reverse=True):
        last = last_line(program.statements[line])
        rest = {number: True for number in kept if not line <= number <= last}
        smaller = program_of([lines[number - 1] for number in rest])
        result = None if smaller is None else same_or_many(smaller, present)
        if result is not None and result[0] == "same":
            kept, present = rest, smaller
        steps.append((line, result))
    return present.text, tuple(steps)


def last_line(statement):
    """The line of the last statement within a statement, which is its own if it has no bodies."""
    inner = statement.inside + statement.otherwise
    return last_line(inner[-1]) if inner else statement.line


def program_of(lines):
    """The program of some lines, None if they are none."""
    try:
        return Program("\n".join(lines))
    except BadProgram:
        return None


def same_or_many(one, other):
    """What same returns, "many" if there are too many classes."""
    try:
        return same(one, other)
    except TooMany:
        return "many"
