"""The statements of a program, and which of them comes after which."""


class Statement:
    """One statement.

    line is its number, word its first word, and given is what stands behind that word, in the form
    that parsing.py describes. inside has the statements of the body of an if or while, otherwise
    those of the else body. follow is the line of what comes after the whole statement, 0 if that
    is the end of its part or of main.
    """

    def __init__(self, line, word, given):
        self.line = line
        self.word = word
        self.given = given
        self.inside = []
        self.otherwise = []
        self.follow = 0


def link(body, end):
    """Sets follow in all statements of a body; end is the line of what comes after the body."""
    follows = [statement.line for statement in body[1:]] + [end]
    for statement, follow in zip(body, follows):
        statement.follow = follow
        back = statement.line if statement.word == "while" else follow
        link(statement.inside, back)
        link(statement.otherwise, back)
