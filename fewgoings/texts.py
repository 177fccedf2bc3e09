"""Texts that programs work on."""

from fewgoings.errors import BadText


def check_text(machine, text):
    """BadText unless a value is a text of the symbols of a program or chain."""
    if not isinstance(text, str) or [sign for sign in text if sign not in machine.symbols]:
        raise BadText(text)


def marked(text):
    """A text with its marks, so that each sign has its position as its index."""
    return f"<{text}>"
