"""Journals of pages."""

from fewgoings.commands import do_edit, edit_from, program_text_from
from fewgoings.errors import BadJournal, BadProgram, PassError
from fewgoings.farforms import check_far, far_from, far_in_signs
from fewgoings.pages import Page
from fewgoings.programs import Program
from fewgoings.texts import ALPHABET


def show_far(far):
    """A far text, of any letters, as it is written in a journal. BadFar."""
    check_far(ALPHABET, far)
    return far_in_signs(far)


def read_far(text):
    """The far text that is written as in a journal. BadFar."""
    return far_from(text)


def read_journal(lines):
    """The page that the lines of a journal lead to. BadJournal."""
    if not isinstance(lines, tuple) or not lines or not all([isinstance(line, str) for line in lines]):
        raise BadJournal(0)
    page = first_page(lines[0])
    if page is None:
        raise BadJournal(1)
    for number, line in enumerate(lines[1:], start=2):
        if not is_done(page, line):
            raise BadJournal(number)
    return page


def first_page(line):
    """The page that the first line of a journal tells, None if it is none."""
    if not line.startswith("page "):
        return None
    try:
        return Page(Program(program_text_from(line.removeprefix("page "))))
    except BadProgram:
        return None


def is_done(page, line):
    """Whether a line of a journal is one and is not refused; then it is done."""
    edit = edit_from(line)
    if edit is None:
        return False
    try:
        do_edit(page, *edit)
    except PassError:
        return False
    return True


def stored(page):
    """The journal of a page as one string."""
    return "".join([f"{line} {len(line)}\n" for line in page.journal])


def recover(text):
    """(page, lost): the page as of the last whole line, and how many characters were dropped. BadJournal."""
    if not isinstance(text, str):
        raise BadJournal(0)
    lines = whole_lines(text)
    page = first_page(lines[0]) if lines else None
    if page is None:
        raise BadJournal(1)
    for line in lines[1:]:
        if not is_done(page, line):
            break
    return page, len(text) - len(stored(page))


def whole_lines(text):
    """The lines of a stored journal, up to the first one that is not stored as it should be."""
    lines = []
    for row in text.split("\n")[:-1]:
        line, blank, number = row.rpartition(" ")
        if blank == "" or number != str(len(line)):
            break
        lines.append(line)
    return lines
