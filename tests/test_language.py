"""Rules of the Python subset that can be seen in the files of the package."""

import ast
import builtins
import pathlib
import re
import unittest

import quietbroom

FOLDER = pathlib.Path(quietbroom.__file__).parent
FILES = sorted(FOLDER.glob("*.py"))
TREES = {path.stem: ast.parse(path.read_text()) for path in FILES}

BUILTINS = set(
    "len range enumerate zip min max sum abs sorted reversed int str bool list tuple dict set isinstance ord repr any "
    "all divmod pow iter next map getattr hasattr setattr super property Exception ValueError TypeError KeyError "
    "IndexError LookupError ZeroDivisionError ArithmeticError OverflowError RuntimeError NotImplementedError "
    "AttributeError StopIteration NotImplemented".split()
)
METHODS = set(
    "append clear copy count endswith extend find get index insert isalnum isalpha isdigit islower isspace isupper "
    "items join keys ljust lower lstrip partition pop remove replace reverse rfind rjust rpartition rsplit rstrip "
    "setdefault split splitlines startswith strip update upper values zfill bit_length removeprefix removesuffix "
    "rindex add discard".split()
)
BARRED = (
    ast.AsyncFunctionDef, ast.AsyncFor, ast.AsyncWith, ast.Await, ast.Global, ast.Import, ast.Div, ast.MatMult,
    ast.Yield, ast.YieldFrom, ast.GeneratorExp, ast.Lambda, ast.AnnAssign,
)
NOWHERE = {"register", "mro", "elements", "open", "input", "law", "version_info", "with_traceback", "add_note"}
WORDS = re.compile(
    r"\b(type|typing|typing_extensions|enum|Enum|IntEnum|StrEnum|Flag|IntFlag|Generic|Protocol|ABC|ABCMeta|namedtuple|"
    r"NamedTuple|TypedDict|TYPE_CHECKING|abstractmethod)\b|dataclass|overload|contextmanager"
)
ESCAPE = re.compile(r"\\[^nt\\'\"]")


def nodes(kind):
    """All nodes of a kind, each with the name of its file."""
    for name, tree in TREES.items():
        for node in ast.walk(tree):
            if isinstance(node, kind):
                yield name, node


def defined(tree):
    """The names that a file binds at module level itself."""
    names = []
    for node in tree.body:
        if isinstance(node, (ast.FunctionDef, ast.ClassDef)):
            names.append(node.name)
        elif isinstance(node, ast.Assign):
            names.extend(target.id for target in node.targets)
    return names


def imported(tree):
    """The modules that a file imports from, each with the names."""
    return [(node.module, [alias.name for alias in node.names]) for node in tree.body
            if isinstance(node, ast.ImportFrom)]


class FilesTest(unittest.TestCase):

    def test_nothing_but_python_files(self):
        others = [path.name for path in FOLDER.iterdir() if path.suffix != ".py" and path.name != "__pycache__"]
        self.assertEqual(others, [])
        for path in FILES:
            self.assertRegex(path.stem, r"^[a-z_0-9]+$")

    def test_size(self):
        for path in FILES:
            lines = path.read_text().split("\n")
            self.assertLessEqual(len(lines), 399, path.name)
            for line in lines:
                self.assertLessEqual(len(line), 120, path.name)
        for name, node in nodes(ast.FunctionDef):
            self.assertLessEqual(node.end_lineno - node.lineno + 1, 40, (name, node.name))

    def test_characters(self):
        for path in FILES:
            for sign in path.read_text():
                self.assertTrue(sign == "\n" or " " <= sign <= "~", (path.name, sign))

    def test_strings(self):
        for name, node in nodes(ast.Constant):
            self.assertNotIsInstance(node.value, (float, complex, bytes), name)
            if isinstance(node.value, str):
                self.assertNotIn(chr(37), node.value, name)
                self.assertIsNone(ESCAPE.search(ast.get_source_segment((FOLDER / (name + ".py")).read_text(), node) or ""))


class NamesTest(unittest.TestCase):

    def test_words_that_do_not_occur(self):
        for path in FILES:
            for number, line in enumerate(path.read_text().split("\n"), start=1):
                self.assertIsNone(WORDS.search(line), (path.name, number))

    def test_bound_names(self):
        own = set(dir(builtins))
        for name, node in nodes((ast.FunctionDef, ast.ClassDef, ast.arg, ast.Name, ast.Attribute)):
            bound = getattr(node, "name", None) or getattr(node, "arg", None) or getattr(node, "id", None) or node.attr
            self.assertNotIn(bound, NOWHERE, name)
            if isinstance(node, ast.arg) or isinstance(node, ast.Name) and isinstance(node.ctx, ast.Store):
                self.assertNotIn(bound, own, name)

    def test_module_level_names_are_bound_once(self):
        for name, tree in TREES.items():
            bound = defined(tree) + [word for _, words in imported(tree) for word in words]
            self.assertEqual(len(bound), len(set(bound)), name)
            for node in ast.walk(tree):
                if isinstance(node, ast.arg):
                    self.assertNotIn(node.arg, bound, name)
                if isinstance(node, ast.FunctionDef):
                    stored = {part.id for part in ast.walk(node)
                              if isinstance(part, ast.Name) and isinstance(part.ctx, ast.Store)}
                    self.assertEqual(stored & set(bound), set(), name)

    def test_no_name_is_a_method_and_an_attribute_of_one_class(self):
        for name, node in nodes(ast.ClassDef):
            methods = {part.name for part in node.body if isinstance(part, ast.FunctionDef)}
            attributes = {part.attr for part in ast.walk(node)
                          if isinstance(part, ast.Attribute) and isinstance(part.ctx, ast.Store)}
            self.assertEqual(methods & attributes, set(), (name, node.name))

    def test_used_builtins(self):
        for name, node in nodes(ast.Name):
            if node.id in dir(builtins):
                self.assertIn(node.id, BUILTINS, name)

    def test_called_methods(self):
        own = {node.name for _, node in nodes(ast.FunctionDef)}
        for name, node in nodes(ast.Call):
            if isinstance(node.func, ast.Attribute):
                self.assertIn(node.func.attr, METHODS | own, name)


class StatementsTest(unittest.TestCase):

    def test_barred_statements_and_expressions(self):
        for name, node in nodes(BARRED):
            self.fail((name, node.lineno, type(node).__name__))
        for name, node in nodes((ast.FunctionDef, ast.ClassDef)):
            self.assertEqual(node.decorator_list, [], name)

    def test_module_level(self):
        for name, tree in TREES.items():
            for node in tree.body[1:]:
                self.assertIsInstance(node, (ast.ImportFrom, ast.Assign, ast.FunctionDef, ast.ClassDef), name)
                if isinstance(node, ast.Assign):
                    calls = [part for part in ast.walk(node.value) if isinstance(part, (ast.Call, ast.ListComp))]
                    self.assertEqual((len(node.targets), calls), (1, []), name)
            self.assertIsNotNone(ast.get_docstring(tree), name)

    def test_imports(self):
        for name, tree in TREES.items():
            for module, words in imported(tree):
                self.assertTrue(module.startswith("quietbroom."), name)
                for word in words:
                    self.assertIn(word, defined(TREES[module.partition(".")[2]]), name)
        for name, node in nodes(ast.ImportFrom):
            self.assertIn(node, TREES[name].body)
            self.assertEqual([alias.asname for alias in node.names], [None] * len(node.names), name)

    def test_no_two_files_import_from_each_other(self):
        left = {name: {module.partition(".")[2] for module, _ in imported(tree)} for name, tree in TREES.items()}
        while left:
            free = [name for name, others in left.items() if not others & set(left)]
            self.assertNotEqual(free, [], left)
            for name in free:
                del left[name]

    def test_caught_errors_are_own_ones(self):
        own = {node.name for _, node in nodes(ast.ClassDef)}
        for name, node in nodes(ast.ExceptHandler):
            self.assertIsInstance(node.type, ast.Name, name)
            self.assertIn(node.type.id, own | {"KeyError", "ZeroDivisionError"}, name)


if __name__ == "__main__":
    unittest.main()
