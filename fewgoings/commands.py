"""The lines of a journal."""

from fewgoings.errors import BadFar
from fewgoings.farforms import far_from, number_of


def program_line(word, program):
    """A line that tells a program: a word, and the lines of the program, each behind a bar."""
    return " ".join([word, "".join([f"|{line}" for line in program.text.split("\n")])])


def program_text_from(lines):
    """The text of a program, each line of which stands behind a bar; None for other strings."""
    if not lines.startswith("|") or "\n" in lines:
        return None
    return "\n".join(lines[1:].split("|"))


def edit_from(line):
    """(word, arguments) of a line that tells an edit, undo or redo; None if it does not have this form."""
    word, _, rest = line.partition(" ")
    if word == "reprogram":
        text = program_text_from(rest)
        return None if text is None else (word, [text])
    words = line.split(" ")
    if words in (["undo"], ["redo"]):
        return word, []
    if word == "put" and len(words) == 3:
        given = [number_of(words[1]), far_or_none(words[2])]
    elif (word, len(words)) in (("strike", 3), ("move", 4)):
        given = [number_of(number) for number in words[1:]]
    else:
        return None
    return None if None in given else (word, given)


def far_or_none(text):
    """The far text that a string writes, None for other strings."""
    try:
        return far_from(text)
    except BadFar:
        return None


def do_edit(page, word, given):
    """Does what edit_from reads of a line; returns the number of a put, otherwise None."""
    if word == "put":
        return page.put(*given)
    if word == "strike":
        page.strike(*given)
    elif word == "move":
        page.move(*given)
    elif word == "reprogram":
        page.reprogram(*given)
    elif word == "undo":
        page.undo()
    else:
        page.redo()
    return None
