"""A second reading of the document, made in another way than the package, to compare with.

walk executes the bodies as they are nested; first_bad_line checks lines by patterns.
"""

import re

WORDS = "symbols|cell|part|main|right|left|write|copy|set|add|if|else|while|do|stop|at|not"
NAME = f"(?!(?:{WORDS})$)[a-z]{{1,8}}"


class Ended(Exception):
    """The run ends here."""


def tree(text):
    """(mosts, parts, main) of a valid program; bodies are lists of (line, words, body, else body)."""
    lines = text.split("\n")
    mosts, parts, at = {}, {}, 1
    main = []
    while at < len(lines):
        words = lines[at].split()
        at += 1
        if words[0] == "cell":
            mosts[words[1]] = int(words[2])
        elif words[0] == "part":
            parts[words[1]], at = body_of(lines, at, 2)
        else:
            main, at = body_of(lines, at, 2)
    return mosts, parts, main


def indent(lines, at):
    return len(lines[at]) - len(lines[at].lstrip(" ")) if at < len(lines) else -1


def body_of(lines, at, width):
    body = []
    while indent(lines, at) == width and lines[at].split() != ["else"]:
        line, words, inside, otherwise = at + 1, lines[at].split(), [], []
        at += 1
        if words[0] in ("if", "while"):
            inside, at = body_of(lines, at, width + 2)
        if indent(lines, at) == width and lines[at].split() == ["else"]:
            otherwise, at = body_of(lines, at + 1, width + 2)
        body.append((line, words, inside, otherwise))
    return body, at


class Walk:
    """One run of a valid program; configurations() gives all of them, without an end if there is none."""

    def __init__(self, program, text):
        self.mosts, self.parts, self.main = tree(program)
        self.signs = "<" + text + ">"
        self.cells = {name: 0 for name in self.mosts}
        self.position = 0
        self.output = []

    def now(self, control):
        return control, tuple(self.cells.values()), self.position

    def configurations(self):
        try:
            yield from self.body(self.main, ())
        except Ended:
            pass
        yield self.now(())

    def body(self, statements, dos):
        for line, words, inside, otherwise in statements:
            yield self.now((*dos, line))
            while words[0] == "while" and self.holds(words[1:]):
                yield from self.body(inside, dos)
                yield self.now((*dos, line))
            if words[0] == "if":
                yield from self.body(inside if self.holds(words[1:]) else otherwise, dos)
            if words[0] == "do":
                yield from self.body(self.parts[words[1]], (*dos, line))
            self.act(*words)

    def holds(self, words):
        if words[0] == "not":
            return not self.holds(words[1:])
        if words[0] == "at":
            return self.signs[self.position] in words[1]
        return self.cells[words[0]] == int(words[2])

    def act(self, word, *rest):
        sign = self.signs[self.position]
        if word == "stop" or (word, sign) in (("right", ">"), ("left", "<")):
            raise Ended
        if word == "right":
            self.position += 1
        elif word == "left":
            self.position -= 1
        elif word == "write":
            self.output.append((rest[0], self.position))
        elif word == "copy" and sign not in "<>":
            self.output.append((sign, self.position))
        elif word == "set":
            self.cells[rest[0]] = int(rest[1])
        elif word == "add":
            self.cells[rest[0]] = (self.cells[rest[0]] + int(rest[1])) % (self.mosts[rest[0]] + 1)


def walk(program, text):
    """(configurations, result of run) of a valid program on a text."""
    walker = Walk(program, text)
    rows = []
    for row in walker.configurations():
        rows.append(row)
        if row in rows[:-1]:
            return rows, ("ever", rows.index(row), len(rows) - 1)
    return rows, ("done", tuple(walker.output))


class Lines:
    """What is known of a program after some of its lines."""

    def __init__(self):
        self.symbols = ""
        self.mosts = {}
        self.parts = []       # parts above the present one
        self.present = None   # name of the present part, "main", or None
        self.blocks = []      # words of the lines with the open bodies, outermost first
        self.closed = None    # word of the line whose body ended last, if the present line follows it
        self.wants_body = False
        self.many = 0

    def take(self, line):
        """Whether the next line may stand here; if so, it is noted."""
        match = re.fullmatch(r"((?:  )*)([^ ]+(?: [^ ]+)*)", line, re.DOTALL)
        if not match:
            return False
        depth, rest = len(match[1]) // 2, match[2]
        if depth > len(self.blocks) or (self.wants_body and depth != len(self.blocks)):
            return False
        self.closed = self.blocks[depth] if depth < len(self.blocks) else None
        del self.blocks[depth:]
        self.wants_body = False
        return self.take_top(rest) if depth == 0 else self.take_inner(rest, depth)

    def take_top(self, rest):
        if self.symbols == "":
            match = re.fullmatch("symbols ([a-z]{2,4})", rest)
            if not match or list(match[1]) != sorted(set(match[1])):
                return False
            self.symbols = match[1]
            return True
        if match := re.fullmatch(f"cell ((?:{NAME.replace('$', ' ')})) ([12])", rest):
            if self.present or match[1] in self.mosts or len(self.mosts) == 2:
                return False
            self.mosts[match[1]] = int(match[2])
            return True
        if self.present == "main":
            return False
        if self.present:
            self.parts.append(self.present)
        match = re.fullmatch(f"main|part ({NAME})", rest)
        if not match:
            return False
        name = match[1] or "main"
        if name in self.mosts or name in self.parts or (name != "main" and len(self.parts) == 2):
            return False
        self.present = name
        self.open("body")
        return True

    def open(self, word):
        self.blocks.append(word)
        self.wants_body = True

    def take_inner(self, rest, depth):
        if rest == "else":
            self.open("else")
            return self.closed == "if"
        self.many += 1
        if depth > 4 or self.many > 20 or not self.is_statement(rest):
            return False
        if rest.split(" ")[0] in ("if", "while"):
            self.open(rest.split(" ")[0])
        return True

    def is_statement(self, rest):
        places = "".join(sign + "?" for sign in f"<{self.symbols}>")
        settings = [f"{name} [0-{most}]" for name, most in self.mosts.items()] or ["(?!)"]
        equal = "|".join(setting.replace(" ", " = ") for setting in settings)
        sums = "|".join(f"{name} [12]" for name in self.mosts) or "(?!)"
        return re.fullmatch(
            f"right|left|copy|stop|write [a-z]|set (?:{'|'.join(settings)})|add (?:{sums})"
            f"|do (?:{'|'.join(self.parts) or '(?!)'})"
            f"|(?:if|while) (?:not )?(?:at (?!$){places}|{equal})",
            rest,
        )


def first_bad_line(text):
    """The number that BadProgram has for a string, None if it is a program."""
    lines, known = text.split("\n"), Lines()
    for number, line in enumerate(lines, start=1):
        if not known.take(line):
            return number
    if known.present != "main" or known.wants_body:
        return len(lines) + 1
    return None
