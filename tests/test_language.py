"""The rules of the language that can be read off the package's files (the numbers are those of the rules)."""

import ast
import builtins
import re
import unittest
from pathlib import Path

PACKAGE = Path(__file__).resolve().parent.parent / "turnline"
FILES = sorted(PACKAGE.glob("*.py"))

PYTHONS_NAMES = """
len range enumerate zip min max sum abs sorted reversed int str bool bytes list tuple dict set isinstance ord repr
any all divmod Exception ValueError TypeError KeyError IndexError LookupError ZeroDivisionError ArithmeticError
OverflowError RuntimeError NotImplementedError AttributeError StopIteration
""".split()
METHODS = """
append clear copy count endswith extend find get index insert isalnum isalpha isdigit islower isspace isupper items
join keys ljust lower lstrip partition pop remove replace reverse rfind rjust rpartition rsplit rstrip setdefault split
splitlines startswith strip update upper values zfill bit_length add discard sort
""".split()
WORDS_OUT = re.compile(
    r"\b(type|typing|typing_extensions|enum|Enum|IntEnum|StrEnum|Flag|IntFlag|Generic|Protocol|ABC|ABCMeta|namedtuple"
    r"|NamedTuple|TypedDict|TYPE_CHECKING|abstractmethod)\b|dataclass|overload|contextmanager")
NODES_OUT = (
    ast.Import, ast.With, ast.Match, ast.Global, ast.Nonlocal, ast.Yield, ast.YieldFrom, ast.AsyncFunctionDef,
    ast.AsyncFor, ast.AsyncWith, ast.Await, ast.GeneratorExp, ast.NamedExpr, ast.Div, ast.MatMult)


def tree_of(file):
    return ast.parse(file.read_text("utf-8"))


def nodes(*kinds):
    """Every node of these kinds, with where it stands."""
    for file in FILES:
        for node in ast.walk(tree_of(file)):
            if isinstance(node, kinds):
                yield node, f"{file.name}:{getattr(node, 'lineno', '?')}"


def top_names(file):
    """The names that a file binds at its top, in order."""
    found = []
    for node in tree_of(file).body:
        if isinstance(node, (ast.FunctionDef, ast.ClassDef)):
            found.append(node.name)
        elif isinstance(node, ast.Assign):
            found += [target.id for target in node.targets]
        elif isinstance(node, ast.ImportFrom):
            found += [name.asname or name.name for name in node.names]
    return found


def own_names(file):
    drawn = [name.name for node in tree_of(file).body if isinstance(node, ast.ImportFrom) for name in node.names]
    return [name for name in top_names(file) if name not in drawn]


class Language(unittest.TestCase):
    def test_files(self):
        """L1, L14"""
        self.assertIn("__init__.py", [file.name for file in FILES])
        for path in PACKAGE.iterdir():
            if path.name != "__pycache__":
                self.assertRegex(path.name, r"^([a-z][a-z0-9_]*|__init__)\.py$")

    def test_size_and_signs(self):
        """L10, L14, L17"""
        for file in FILES:
            text = file.read_bytes().decode("ascii")
            rows = text.split("\n")
            self.assertRegex(text, r"\A[ -~\n]*\Z", file.name)
            self.assertLessEqual(len(rows), 400, file.name)
            self.assertLessEqual(max(len(row) for row in rows), 120, file.name)
            self.assertIsNone(WORDS_OUT.search(text), file.name)
        for node, place in nodes(ast.FunctionDef):
            self.assertLessEqual(node.end_lineno - node.lineno + 1, 40, place)

    def test_imports(self):
        """L2, L16"""
        for node, place in nodes(ast.ImportFrom):
            self.assertEqual(node.level, 0, place)
            self.assertRegex(node.module, r"^turnline\.[a-z][a-z0-9_]*$", place)
            defined = own_names(PACKAGE / (node.module.split(".")[1] + ".py"))
            for name in node.names:
                self.assertIn(name.name, defined, place)

    def test_tops(self):
        """L3, L15"""
        for file in FILES:
            names = top_names(file)
            self.assertEqual(len(names), len(set(names)), file.name)
            self.assertIsNotNone(ast.get_docstring(tree_of(file)), file.name)

    def test_statements_and_values(self):
        """L6, L7"""
        for node, place in nodes(*NODES_OUT):
            self.fail(f"{place} {node}")
        for node, place in nodes(ast.Constant):
            self.assertNotIsInstance(node.value, (float, complex), place)
        for node, place in nodes(ast.For, ast.While):
            self.assertEqual(node.orelse, [], place)

    def test_defs(self):
        """L4, L5"""
        for node, place in nodes(ast.FunctionDef):
            self.assertEqual(node.decorator_list, [], place)
            self.assertIsNone(node.args.vararg or node.args.kwarg, place)
            self.assertEqual(node.args.posonlyargs, [], place)
        for node, place in nodes(ast.ClassDef):
            self.assertEqual(node.decorator_list, [], place)
            self.assertLessEqual(len(node.bases), 1, place)

    def test_names(self):
        """L8, L12, L15"""
        for file in FILES:
            bound = top_names(file)
            for node in ast.walk(tree_of(file)):
                if isinstance(node, ast.arg):
                    bound.append(node.arg)
                elif isinstance(node, ast.Name) and isinstance(node.ctx, ast.Store):
                    bound.append(node.id)
            for name in bound:
                self.assertRegex(name, r"^[A-Za-z][A-Za-z0-9_]*$", file.name)
                self.assertNotIn(name, dir(builtins), file.name)
            for node in ast.walk(tree_of(file)):
                if isinstance(node, ast.Name):
                    self.assertIn(node.id, bound + PYTHONS_NAMES, file.name)

    def test_methods(self):
        """L24, L25, L26"""
        own = [node.name for node, _ in nodes(ast.FunctionDef)]
        for node, place in nodes(ast.Call):
            if isinstance(node.func, ast.Attribute):
                self.assertIn(node.func.attr, METHODS + own, place)

    def test_no_file_draws_from_one_that_draws_from_it(self):
        """L16"""
        draws = {file.stem: set() for file in FILES}
        for file in FILES:
            for node in tree_of(file).body:
                if isinstance(node, ast.ImportFrom):
                    draws[file.stem].add(node.module.split(".")[1])
        while draws:
            free = [stem for stem, drawn in draws.items() if not drawn & set(draws)]
            self.assertNotEqual(free, [], draws)
            for stem in free:
                del draws[stem]

    def test_is_stands_beside_none_true_and_false_alone(self):
        """L20"""
        for node, place in nodes(ast.Compare):
            for sign, right in zip(node.ops, node.comparators):
                if isinstance(sign, (ast.Is, ast.IsNot)):
                    self.assertIn(getattr(right, "value", "other"), (None, True, False), place)


if __name__ == "__main__":
    unittest.main()
