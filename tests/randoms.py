"""Programs and texts made by a random generator with a fixed seed."""

import random


class Maker:
    """Makes valid programs of all forms."""

    def __init__(self, seed):
        self.random = random.Random(seed)

    def program(self):
        rnd = self.random
        self.symbols = "".join(sorted(rnd.sample("abcxyz", rnd.randint(2, 4))))
        self.mosts = {name: rnd.randint(1, 2) for name in rnd.sample(["n", "m", "counters"], rnd.randint(0, 2))}
        self.left = rnd.randint(3, 20)
        lines = [f"symbols {self.symbols}"]
        lines += [f"cell {name} {most}" for name, most in self.mosts.items()]
        self.parts = []
        for name in rnd.sample(["p", "turn", "q"], rnd.randint(0, 2)):
            lines += [f"part {name}", *self.body(1, rnd.randint(1, 4))]
            self.parts.append(name)
            self.left = max(self.left, 1)
        lines += ["main", *self.body(1, 20)]
        if sum(line.strip() != "else" for line in lines if line.startswith(" ")) > 20:
            return self.program()
        return "\n".join(lines)

    def body(self, depth, most):
        lines = []
        for _ in range(self.random.randint(1, most)):
            if lines and self.left <= 0:
                break
            lines += self.statement(depth)
        return lines

    def statement(self, depth):
        rnd = self.random
        self.left -= 1
        indent = "  " * depth
        if depth < 4 and self.left > 1 and rnd.random() < 0.3:
            return self.sweep(depth)
        if depth < 4 and self.left > 0 and rnd.random() < 0.35:
            word = rnd.choice(["if", "while"])
            lines = [f"{indent}{word} {self.condition()}", *self.body(depth + 1, 4)]
            if word == "if" and self.left > 0 and rnd.random() < 0.5:
                lines += [f"{indent}else", *self.body(depth + 1, 3)]
            return lines
        return [indent + self.simple()]

    def sweep(self, depth):
        """A loop that goes to one of the marks, as most useful programs have it."""
        self.left -= 1
        mark, word = self.random.choice([("<", "left"), (">", "right"), (">", "right")])
        indent = "  " * depth
        body = self.body(depth + 1, 2) if self.left > 0 and self.random.random() < 0.7 else []
        return [f"{indent}while not at {mark}", *body, f"{indent}  {word}"]

    def simple(self):
        rnd = self.random
        forms = ["right"] * 6 + ["left"] * 3 + ["copy"] * 3 + [f"write {rnd.choice('axz')}"] * 2
        forms += ["stop"] if rnd.random() < 0.2 else []
        for name, most in self.mosts.items():
            forms += [f"set {name} {rnd.randint(0, most)}", f"add {name} {rnd.randint(1, 2)}"]
        for name in self.parts:
            forms += [f"do {name}"] * 3
        return rnd.choice(forms)

    def condition(self):
        rnd = self.random
        negation = rnd.choice(["", "", "not "])
        if self.mosts and rnd.random() < 0.4:
            name = rnd.choice(list(self.mosts))
            return f"{negation}{name} = {rnd.randint(0, self.mosts[name])}"
        signs = f"<{self.symbols}>"
        places = sorted(rnd.sample(range(len(signs)), rnd.randint(1, len(signs))))
        return f"{negation}at {''.join(signs[place] for place in places)}"

    def text(self, symbols, most=7):
        return "".join(self.random.choice(symbols) for _ in range(self.random.randint(0, most)))

    def spoiled(self, text):
        """A text that comes of a program by a few changes, and may be a program or not."""
        rnd = self.random
        lines = text.split("\n")
        for _ in range(rnd.randint(1, 2)):
            at = rnd.randrange(len(lines))
            other = rnd.choice(lines)
            change = rnd.randrange(9)
            if change == 0 and len(lines) > 1:
                del lines[at]
            elif change == 1:
                lines.insert(at, other)
            elif change == 2:
                lines[at] = "  " + lines[at]
            elif change == 3:
                lines[at] = lines[at][rnd.randint(1, 2):]
            elif change == 4:
                del lines[at + 1:]
            elif change == 5:
                words = lines[at].split(" ")
                words[rnd.randrange(len(words))] = rnd.choice(other.split(" "))
                lines[at] = " ".join(words)
            elif change == 6:
                place = rnd.randint(0, len(lines[at]))
                sign = rnd.choice(" abn0123<>=\t\nX")
                lines[at] = lines[at][:place] + sign + lines[at][place + rnd.randint(0, 1):]
            elif change == 7:
                lines[at] = lines[at] + rnd.choice([" ", " a", " 1", "a", "\n"])
            else:
                depth = (len(lines[at]) - len(lines[at].lstrip(" "))) * " "
                lines.insert(at + rnd.randint(0, 1), depth + rnd.choice(["else", "if at a", "right", "do p", "main"]))
        return "\n".join(lines)


class Sweeper:
    """Makes programs that go from mark to mark some times and mostly end, whose passes are worth asking for."""

    def __init__(self, seed):
        self.random = random.Random(seed)

    def program(self, symbols="", letters=""):
        rnd = self.random
        self.symbols = symbols or rnd.choice(["ab", "ab", "ab", "abc", "xy", "abyz"])
        self.letters = letters or "axz"
        self.mosts = {name: rnd.randint(1, 2) for name in ["n", "m"][:rnd.choice([0, 1, 1, 2])]}
        self.parts = []
        lines = [f"symbols {self.symbols}", *[f"cell {name} {most}" for name, most in self.mosts.items()]]
        if rnd.random() < 0.3:
            lines += ["part p", *self.some(1, 2)]
            self.parts = ["p"]
        lines += ["main"]
        ahead = True
        for _ in range(rnd.randint(1, 5)):
            lines += self.some(1, 1) if rnd.random() < 0.3 else []
            lines += self.sweep(ahead)
            ahead = not ahead if rnd.random() < 0.9 else ahead
        if sum(line.startswith(" ") and line.strip() != "else" for line in lines) > 20:
            return self.program(symbols, letters)
        return "\n".join(lines)

    def sweep(self, ahead):
        mark, word = (">", "right") if ahead else ("<", "left")
        rnd = self.random
        body = self.some(2, 2) if rnd.random() < 0.75 else []
        if rnd.random() < 0.15:
            body += [f"    if {self.condition()}", f"      {rnd.choice(['left', 'right', 'stop'])}"]
        return [f"  while not at {mark}", *body, f"    {word}"]

    def some(self, depth, most):
        lines = []
        rnd = self.random
        indent = "  " * depth
        for _ in range(rnd.randint(1, most)):
            if depth < 4 and rnd.random() < 0.5:
                lines += [f"{indent}if {self.condition()}", *self.some(depth + 1, 1)]
                if rnd.random() < 0.3:
                    lines += [f"{indent}else", *self.some(depth + 1, 1)]
            else:
                lines.append(indent + self.simple())
        return lines

    def simple(self):
        rnd = self.random
        forms = [f"write {rnd.choice(self.letters)}"]
        forms += ["copy"] * 3 if set(self.symbols) <= set(self.letters) or self.letters == "axz" else forms
        for name, most in self.mosts.items():
            forms += [f"set {name} {rnd.randint(0, most)}"] + [f"add {name} {rnd.randint(1, 2)}"] * 2
        forms += ["do p"] * 2 if self.parts else []
        return rnd.choice(forms)

    def condition(self):
        rnd = self.random
        negation = rnd.choice(["", "", "not "])
        if self.mosts and rnd.random() < 0.5:
            name = rnd.choice(list(self.mosts))
            return f"{negation}{name} = {rnd.randint(0, self.mosts[name])}"
        signs = f"<{self.symbols}>"
        places = sorted(rnd.sample(range(len(signs)), rnd.randint(1, 2)))
        return f"{negation}at {''.join(signs[place] for place in places)}"
