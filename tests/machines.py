"""Machines that several tests use, made out of few lines."""

from fewgoings.chains import Chain
from fewgoings.programs import Program
from tests.samples import program_text


def main(*body, head=(), symbols="ab"):
    """A program with these lines in the body of main."""
    return Program(program_text(*body, head=head, symbols=symbols))


def chain_of(texts):
    """The chain of two programs, given by their texts."""
    return Chain(Program(texts[0]), Program(texts[1]))


COPY = main("while not at >", "  copy", "  right")
NEVER = main("while at <", "  write x")
