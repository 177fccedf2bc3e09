"""Rules of the language that the package is written in, as far as they can be seen in its files."""

import ast
import builtins
import pathlib
import re
import unittest

PACKAGE = pathlib.Path(__file__).resolve().parent.parent / "fewgoings"
FILES = sorted(PACKAGE.rglob("*.py"))

BUILTINS = (
    "len range enumerate zip min max sum abs sorted reversed int str bool bytes list tuple dict set frozenset "
    "isinstance ord repr any all divmod Exception ValueError TypeError KeyError IndexError LookupError "
    "ZeroDivisionError ArithmeticError OverflowError RuntimeError NotImplementedError AttributeError "
    "StopIteration NotImplemented iter next map property staticmethod classmethod super object float"
).split()
LIBRARY = {
    "heapq": "heappush heappop heapify heapreplace heappushpop".split(),
    "math": "gcd lcm isqrt comb perm factorial".split(),
    "itertools": "product combinations permutations".split(),
}
METHODS = (
    "append clear copy count endswith extend find get index insert isalnum isalpha isdigit islower isspace "
    "isupper items join keys ljust lower lstrip partition pop remove replace reverse rfind rjust rpartition "
    "rsplit rstrip setdefault split splitlines startswith strip update upper values zfill bit_length title "
    "capitalize swapcase casefold center expandtabs removeprefix removesuffix rindex isascii isdecimal "
    "isnumeric istitle isidentifier isprintable translate add discard encode decode sort maketrans"
).split()
UNUSED = (
    "register mro elements open input law version_info with_traceback add_note attrgetter breakpoint builtins "
    "compile copyright credits delattr dir eval exec exit gc getattr globals hasattr help id importlib license "
    "locals methodcaller os quit setattr type vars typing typing_extensions enum Enum IntEnum StrEnum Flag "
    "IntFlag Generic Protocol ABC ABCMeta namedtuple NamedTuple TypedDict TYPE_CHECKING abstractmethod"
).split()
DOUBLE = (
    "init eq repr str len enter exit call iter lt le gt ge ne add sub mul floordiv mod pow and or xor lshift "
    "rshift neg pos invert abs bool contains getitem setitem"
).split()
BARRED_NODES = (
    ast.Global, ast.AsyncFunctionDef, ast.AsyncFor, ast.AsyncWith, ast.Await, ast.Div, ast.MatMult, ast.TryStar,
    ast.MatchClass, ast.MatchMapping,
)


def nodes(tree, *kinds):
    return [node for node in ast.walk(tree) if isinstance(node, kinds)]


def bound_names(tree):
    """Every name that a file gives a meaning to, but for attributes."""
    names = [node.name for node in nodes(tree, ast.FunctionDef, ast.ClassDef)]
    names += [node.id for node in nodes(tree, ast.Name) if isinstance(node.ctx, ast.Store)]
    names += [node.arg for node in nodes(tree, ast.arg)]
    names += [alias.asname or alias.name for node in nodes(tree, ast.ImportFrom) for alias in node.names]
    return names


def docstrings(tree):
    found = []
    for node in nodes(tree, ast.Module, ast.ClassDef, ast.FunctionDef):
        if node.body and isinstance(node.body[0], ast.Expr) and isinstance(node.body[0].value, ast.Constant):
            found.append(node.body[0].value)
    return found


class LanguageTest(unittest.TestCase):
    def setUp(self):
        self.texts = {path: path.read_text(encoding="utf-8") for path in FILES}
        self.trees = {path: ast.parse(text) for path, text in self.texts.items()}

    def test_files(self):
        self.assertIn(PACKAGE / "__init__.py", FILES)
        for path in PACKAGE.rglob("*"):
            if "__pycache__" not in path.parts and not path.is_dir():
                self.assertRegex(path.name, r"^(__init__|__main__|[a-z][a-z0-9_]*)\.py$")
                self.assertNotRegex(path.name, r"^(law_.*|tests?|testing|test_.*|site|conftest)\.py$")
                self.assertNotIn(path.stem, [*dir(builtins), *UNUSED, *LIBRARY])

    def test_sizes_and_characters(self):
        for path, text in self.texts.items():
            lines = text.split("\n")
            self.assertLessEqual(len(lines), 399, path)
            self.assertLessEqual(max(map(len, lines)), 120, path)
            self.assertRegex(text, r"\A[ -~\n]*\Z", path)
            for node in nodes(self.trees[path], ast.FunctionDef):
                self.assertLessEqual(node.end_lineno - node.lineno + 1, 40, (path, node.name))

    def test_module_level(self):
        for path, tree in self.trees.items():
            for node in tree.body:
                self.assertIsInstance(
                    node, (ast.Expr, ast.ImportFrom, ast.Assign, ast.FunctionDef, ast.ClassDef), path)
                if isinstance(node, ast.Assign):
                    self.assertEqual(nodes(node.value, ast.Name, ast.Call), [], path)
                    eval(ast.unparse(node.value), {"__builtins__": {}})

    def test_imports_name_the_file_that_defines(self):
        for path, tree in self.trees.items():
            self.assertEqual(nodes(tree, ast.Import), [], path)
            for node in nodes(tree, ast.ImportFrom):
                names = [alias.name for alias in node.names]
                if node.module in LIBRARY:
                    self.assertLessEqual(set(names), set(LIBRARY[node.module]))
                    continue
                self.assertEqual((node.level, node.module.split(".")[0]), (0, "fewgoings"), path)
                source = self.trees[PACKAGE / f"{node.module.split('.')[1]}.py"]
                own = [part.name for part in source.body if isinstance(part, (ast.FunctionDef, ast.ClassDef))]
                own += [part.targets[0].id for part in source.body if isinstance(part, ast.Assign)]
                self.assertLessEqual(set(names), set(own), (path, node.module))

    def test_imports_are_used(self):
        for path, tree in self.trees.items():
            names = {alias.name for node in nodes(tree, ast.ImportFrom) for alias in node.names}
            self.assertLessEqual(names, {node.id for node in nodes(tree, ast.Name)}, path)

    def test_no_two_files_import_from_each_other(self):
        follows = {
            path.stem: {node.module.split(".")[1] for node in nodes(tree, ast.ImportFrom)
                        if node.module.startswith("fewgoings.")}
            for path, tree in self.trees.items()
        }
        while follows:
            last = [name for name, needed in follows.items() if not needed & set(follows)]
            self.assertTrue(last, follows)
            for name in last:
                del follows[name]

    def test_names(self):
        for path, tree in self.trees.items():
            methods = {part.name for node in nodes(tree, ast.ClassDef) for part in node.body
                       if isinstance(part, ast.FunctionDef)}
            for name in bound_names(tree):
                if name in methods and re.fullmatch("__[a-z]+__", name):
                    self.assertIn(name.strip("_"), DOUBLE, path)
                elif name != "_":
                    self.assertRegex(name, r"^_?[A-Za-z][A-Za-z0-9_]*$", path)
                if name not in methods:
                    self.assertNotIn(name, dir(builtins), path)
                self.assertNotIn(name, UNUSED, path)
            classes_and_imports = [node.name for node in nodes(tree, ast.ClassDef)]
            classes_and_imports += [alias.name for node in nodes(tree, ast.ImportFrom) for alias in node.names]
            inner = [node.arg for node in nodes(tree, ast.arg)]
            inner += [node.id for node in nodes(tree, ast.Name) if isinstance(node.ctx, ast.Store)]
            self.assertEqual(set(inner) & set(classes_and_imports), set(), path)

    def test_builtins_and_methods(self):
        own = {node.name for tree in self.trees.values() for node in nodes(tree, ast.FunctionDef)}
        for path, tree in self.trees.items():
            names = {node.id for node in nodes(tree, ast.Name)}
            self.assertLessEqual(names & set(dir(builtins)), set(BUILTINS), path)
            for node in nodes(tree, ast.Call):
                if isinstance(node.func, ast.Attribute):
                    self.assertIn(node.func.attr, [*METHODS, *own], path)

    def test_no_other_function_has_the_name_of_a_generator(self):
        generators = [node.name for tree in self.trees.values() for node in nodes(tree, ast.FunctionDef)
                      if nodes(node, ast.Yield, ast.YieldFrom)]
        names = [node.name for tree in self.trees.values() for node in nodes(tree, ast.FunctionDef)]
        for name in generators:
            self.assertEqual(names.count(name), 1)

    def test_statements_and_values(self):
        for path, tree in self.trees.items():
            self.assertEqual(nodes(tree, *BARRED_NODES), [], path)
            for node in nodes(tree, ast.Constant):
                self.assertNotIsInstance(node.value, (float, complex), path)
            for node in nodes(tree, ast.ExceptHandler):
                self.assertIsNotNone(node.type, path)
            for node in nodes(tree, ast.FunctionDef, ast.ClassDef):
                for decorator in node.decorator_list:
                    self.assertRegex(ast.unparse(decorator), r"^(property|staticmethod|classmethod|\w+\.setter)$")

    def test_strings(self):
        for path, tree in self.trees.items():
            free = docstrings(tree)
            for node in nodes(tree, ast.Constant):
                if isinstance(node.value, str) and node not in free:
                    self.assertNotIn("%", node.value, path)
                    self.assertNotRegex(node.value, r"^__.*__$|\._?_$", path)
                    self.assertEqual(set(re.findall(r"\w+", node.value)) & set(UNUSED), set(), path)
            self.assertNotIn("%", "".join(node.value for node in free), path)

    def test_generator_expressions(self):
        # Program has an __eq__: only these take a generator expression then.
        for path, tree in self.trees.items():
            calls = [node for node in nodes(tree, ast.Call) if isinstance(node.func, (ast.Name, ast.Attribute))]
            taken = [part for node in calls for part in node.args if isinstance(part, ast.GeneratorExp)
                     and (getattr(node.func, "id", "") in ("list", "tuple", "dict")
                          or getattr(node.func, "attr", "") == "join")]
            self.assertEqual([node for node in nodes(tree, ast.GeneratorExp) if node not in taken], [], path)

    def test_sets_are_not_iterated(self):
        for path, tree in self.trees.items():
            sources = [node.iter for node in nodes(tree, ast.For, ast.comprehension)]
            for node in sources:
                self.assertNotIsInstance(node, (ast.Set, ast.SetComp), path)
                if isinstance(node, ast.Call) and isinstance(node.func, ast.Name):
                    self.assertNotIn(node.func.id, ("set", "frozenset"), path)
