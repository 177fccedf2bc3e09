"""Texts that programs work on, words, and integers."""

from fewgoings.errors import BadPosition, BadText

ALPHABET = "abcdefghijklmnopqrstuvwxyz"


def is_text(machine, value):
    """Whether a value is a text of the symbols of a program or chain."""
    return isinstance(value, str) and all([sign in machine.symbols for sign in value])


def check_text(machine, text):
    """BadText unless a value is a text of the symbols of a program or chain."""
    if not is_text(machine, text):
        raise BadText(text)


def marked(text):
    """A text with its marks, so that each sign has its position as its index."""
    return f"<{text}>"


def least_text(texts):
    """The first of some texts in text order, None if there are none."""
    return min(texts, key=lambda text: (len(text), text)) if texts else None


def is_of_letters(word):
    """Whether all characters of a string are letters."""
    return all([sign in ALPHABET for sign in word])


def is_number(value):
    """Whether a value is an integer, which a bool is not."""
    return isinstance(value, int) and not isinstance(value, bool)


def check_within(position, first, last):
    """BadPosition unless a value is an integer from first to last."""
    if not is_number(position) or not first <= position <= last:
        raise BadPosition(position)
