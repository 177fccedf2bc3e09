"""From the text of a program to its statements, line by line.

What stands behind the first word of a statement is kept in these forms:

    right, left, copy, stop     ""
    write                       the letter
    set, add                    (index of the cell, number)
    if, while                   (wanted, places, setting): the condition holds if being at one of
                                the places (or, if places is "", having the setting, a pair like
                                that of set) is wanted, True or False
    do                          the line with the first statement of the part
"""

from fewgoings.errors import BadProgram
from fewgoings.statements import Statement, link
from fewgoings.texts import ALPHABET, is_of_letters

WORDS = (
    "symbols", "cell", "part", "main", "right", "left", "write", "copy", "set",
    "add", "if", "else", "while", "do", "stop", "at", "not",
)
BARE_WORDS = ("right", "left", "copy", "stop")
VALUES = ("0", "1", "2")
MOST_CELLS = 2
MOST_PARTS = 2
MOST_STATEMENTS = 20
MOST_BODIES = 4
LONGEST_NAME = 8


def parse(text):
    """A Parser that has read the whole text; BadProgram if it is no program."""
    if not isinstance(text, str):
        raise BadProgram(0)
    parser = Parser(text)
    parser.read_program()
    return parser


def is_in_order(word, order):
    """Whether a string has characters of order only, each at most once and in this order."""
    places = [order.find(sign) for sign in word]
    return -1 not in places and sorted(set(places)) == places


class Parser:
    """Reads the lines of a program one after the other.

    number is the number of the line that is read next. It is also the one that BadProgram tells:
    whatever is found wrong, the lines before have been found right.
    """

    def __init__(self, text):
        self.lines = text.split("\n")
        self.number = 1
        self.symbols = ""
        self.mosts = {}
        self.starts = {}
        self.statements = {}
        self.first = 0

    def words_at(self, depth):
        """The words of the next line; none if it is missing, or not well-spaced at this depth."""
        if self.number > len(self.lines):
            return []
        line = self.lines[self.number - 1]
        indentation = "  " * depth
        if not line.startswith(indentation):
            return []
        words = line[len(indentation):].split(" ")
        return [] if "" in words else words

    def read_program(self):
        """Reads all lines."""
        self.read_symbols()
        while self.words_at(0)[:1] == ["cell"]:
            self.read_cell()
        while self.words_at(0)[:1] == ["part"]:
            self.read_part()
        if self.words_at(0) != ["main"]:
            raise BadProgram(self.number)
        self.first = self.read_whole_body()
        if self.number <= len(self.lines):
            raise BadProgram(self.number)

    def read_symbols(self):
        """Reads the line that tells the symbols."""
        words = self.words_at(0)
        if len(words) != 2 or words[0] != "symbols":
            raise BadProgram(self.number)
        if not 2 <= len(words[1]) <= 4 or not is_in_order(words[1], ALPHABET):
            raise BadProgram(self.number)
        self.symbols = words[1]
        self.number += 1

    def read_cell(self):
        """Reads a line that begins with cell."""
        words = self.words_at(0)
        if len(words) != 3 or len(self.mosts) == MOST_CELLS:
            raise BadProgram(self.number)
        if not self.is_new_name(words[1]) or words[2] not in ("1", "2"):
            raise BadProgram(self.number)
        self.mosts[words[1]] = int(words[2])
        self.number += 1

    def read_part(self):
        """Reads a line that begins with part, and the body of the part."""
        words = self.words_at(0)
        if len(words) != 2 or len(self.starts) == MOST_PARTS or not self.is_new_name(words[1]):
            raise BadProgram(self.number)
        # The name is known only behind the body: no part does itself.
        self.starts[words[1]] = self.read_whole_body()

    def is_new_name(self, word):
        """Whether a cell or part may get this name."""
        if len(word) > LONGEST_NAME or not is_of_letters(word):
            return False
        return word not in WORDS and word not in self.mosts and word not in self.starts

    def read_whole_body(self):
        """Reads the line of a part or of main and its body; returns the line of its first statement."""
        self.number += 1
        body = self.read_body(1)
        link(body, 0)
        return body[0].line

    def read_body(self, depth):
        """Reads the statements of a body within that many bodies, itself included.

        A line that is out of place at this depth ends the body. If it does not fit further out
        either, read_program refuses it at last.
        """
        if depth > MOST_BODIES:
            raise BadProgram(self.number)
        body = [self.read_statement(depth)]
        while self.words_at(depth):
            body.append(self.read_statement(depth))
        return body

    def read_statement(self, depth):
        """Reads a statement with its bodies."""
        words = self.words_at(depth)
        given = self.given_by(words)
        if given is None or len(self.statements) == MOST_STATEMENTS:
            raise BadProgram(self.number)
        statement = Statement(self.number, words[0], given)
        self.statements[self.number] = statement
        self.number += 1
        if statement.word in ("if", "while"):
            statement.inside = self.read_body(depth + 1)
        if statement.word == "if" and self.words_at(depth) == ["else"]:
            self.number += 1
            statement.otherwise = self.read_body(depth + 1)
        return statement

    def given_by(self, words):
        """What stands behind the first of the words of a statement; None if they are no statement."""
        word, rest = words[:1], words[1:]
        if word == ["set"]:
            return self.setting_by(rest)
        if word == ["add"]:
            return self.sum_by(rest)
        if word in (["if"], ["while"]):
            return self.condition_by(rest)
        if word == ["write"] and len(rest) == 1:
            return rest[0] if len(rest[0]) == 1 and is_of_letters(rest[0]) else None
        if word == ["do"] and len(rest) == 1:
            return self.starts.get(rest[0])
        return "" if len(words) == 1 and words[0] in BARE_WORDS else None

    def setting_by(self, words):
        """(index, value) of a cell and a value that it may have; None if the words are not such."""
        if len(words) != 2 or words[0] not in self.mosts:
            return None
        name, value = words
        if value not in VALUES[:self.mosts[name] + 1]:
            return None
        return list(self.mosts).index(name), int(value)

    def sum_by(self, words):
        """(index, number) of a cell and what is added to it; None if the words are not such."""
        if len(words) != 2 or words[0] not in self.mosts or words[1] not in ("1", "2"):
            return None
        return list(self.mosts).index(words[0]), int(words[1])

    def condition_by(self, words):
        """(wanted, places, setting) of a condition; None if the words are none."""
        wanted = words[:1] != ["not"]
        words = words if wanted else words[1:]
        if len(words) == 2 and words[0] == "at" and is_in_order(words[1], f"<{self.symbols}>"):
            return wanted, words[1], (0, 0)
        if len(words) != 3 or words[1] != "=":
            return None
        setting = self.setting_by([words[0], words[2]])
        return None if setting is None else (wanted, "", setting)
