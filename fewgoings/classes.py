"""Equivalent prefixes and suffixes of texts."""

from fewgoings.tables import Classes
from fewgoings.texts import check_text


def prefixes(machine):
    """The least text of each class of prefixes, in text order."""
    return tuple(Classes([machine]).prefixes)


def suffixes(machine):
    """The least text of each class of suffixes, in text order."""
    return tuple(Classes([machine]).suffixes)


def prefix_of(machine, text):
    """The least text that is equivalent to a text as a prefix."""
    classes = Classes([machine])
    check_text(machine, text)
    return classes.prefixes[classes.prefix_of(text)]


def suffix_of(machine, text):
    """The least text that is equivalent to a text as a suffix."""
    classes = Classes([machine])
    check_text(machine, text)
    return classes.suffixes[classes.suffix_of(text)]
