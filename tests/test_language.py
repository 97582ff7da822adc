"""The rules of the language that can be read off the package's files (the numbers are those of the rules)."""

import ast
import builtins
import re
import unittest
from pathlib import Path

PACKAGE = Path(__file__).resolve().parent.parent / "turnline"
FILES = sorted(PACKAGE.glob("*.py"))

PYTHONS_NAMES = """
len range enumerate zip min max sum abs sorted reversed int str bool bytes list tuple dict set isinstance ord repr
any all divmod Exception ValueError TypeError KeyError IndexError LookupError ZeroDivisionError ArithmeticError
OverflowError RuntimeError NotImplementedError AttributeError StopIteration
""".split()
METHODS = """
append clear copy count endswith extend find get index insert isalnum isalpha isdigit islower isspace isupper items
join keys ljust lower lstrip partition pop remove replace reverse rfind rjust rpartition rsplit rstrip setdefault split
splitlines startswith strip update upper values zfill bit_length add discard sort
""".split()
WORDS_OUT = re.compile(
    r"\b(type|typing|typing_extensions|enum|Enum|IntEnum|StrEnum|Flag|IntFlag|Generic|Protocol|ABC|ABCMeta|namedtuple"
    r"|NamedTuple|TypedDict|TYPE_CHECKING|abstractmethod)\b|dataclass|overload|contextmanager")
NAMES_OUT = """
register mro elements open input version_info with_traceback add_note attrgetter breakpoint builtins compile copyright
credits delattr dir eval exec exit gc getattr globals hasattr help id importlib license locals methodcaller os quit
setattr super type vars sys chr frozenset print
""".split()
# What is walked on the spot, and the calls in which it may stand as the first thing.
WALKED = ("zip", "enumerate", "reversed", "range", "items", "keys", "values")
WALKERS = ("list", "tuple", "dict", "sorted", "sum", "any", "all", "enumerate", "zip", "bytes", "reversed", "len")
OWN_DOUBLE = ("__init__", "__eq__", "__repr__", "__str__", "__len__")
NODES_OUT = (
    ast.Import, ast.With, ast.Match, ast.Global, ast.Nonlocal, ast.Yield, ast.YieldFrom, ast.AsyncFunctionDef,
    ast.AsyncFor, ast.AsyncWith, ast.Await, ast.GeneratorExp, ast.NamedExpr, ast.Div, ast.MatMult)


def tree_of(file):
    return ast.parse(file.read_text("utf-8"))


def nodes(*kinds):
    """Every node of these kinds, with where it stands."""
    for file in FILES:
        for node in ast.walk(tree_of(file)):
            if isinstance(node, kinds):
                yield node, f"{file.name}:{getattr(node, 'lineno', '?')}"


def top_names(file):
    """The names that a file binds at its top, in order."""
    found = []
    for node in tree_of(file).body:
        if isinstance(node, (ast.FunctionDef, ast.ClassDef)):
            found.append(node.name)
        elif isinstance(node, ast.Assign):
            found += [target.id for target in node.targets]
        elif isinstance(node, ast.ImportFrom):
            found += [name.asname or name.name for name in node.names]
    return found


def own_names(file):
    drawn = [name.name for node in tree_of(file).body if isinstance(node, ast.ImportFrom) for name in node.names]
    return [name for name in top_names(file) if name not in drawn]


def called(node):
    """The name of a call's function or method, or None."""
    if not isinstance(node, ast.Call):
        return None
    return getattr(node.func, "id", None) or getattr(node.func, "attr", None)


def is_plain(node, known):
    """Whether a top's value is plain: numbers, texts, tuples, lists and dicts of these and of functions above."""
    if isinstance(node, ast.Constant):
        return True
    if isinstance(node, ast.Name):
        return node.id in known
    if isinstance(node, (ast.Tuple, ast.List)):
        return all(is_plain(part, known) for part in node.elts)
    return isinstance(node, ast.Dict) and all(is_plain(part, known) for part in node.keys + node.values)


class Language(unittest.TestCase):
    def test_files(self):
        """L1, L14"""
        self.assertIn("__init__.py", [file.name for file in FILES])
        for path in PACKAGE.iterdir():
            if path.name != "__pycache__":
                self.assertRegex(path.name, r"^([a-z][a-z0-9_]*|__init__)\.py$")

    def test_size_and_signs(self):
        """L10, L14, L17"""
        for file in FILES:
            text = file.read_bytes().decode("ascii")
            rows = text.split("\n")
            self.assertRegex(text, r"\A[ -~\n]*\Z", file.name)
            self.assertLessEqual(len(rows), 400, file.name)
            self.assertLessEqual(max(len(row) for row in rows), 120, file.name)
            self.assertIsNone(WORDS_OUT.search(text), file.name)
        for node, place in nodes(ast.FunctionDef):
            self.assertLessEqual(node.end_lineno - node.lineno + 1, 40, place)

    def test_imports(self):
        """L2, L16"""
        for node, place in nodes(ast.ImportFrom):
            self.assertEqual(node.level, 0, place)
            self.assertRegex(node.module, r"^turnline\.[a-z][a-z0-9_]*$", place)
            defined = own_names(PACKAGE / (node.module.split(".")[1] + ".py"))
            for name in node.names:
                self.assertIn(name.name, defined, place)

    def test_tops(self):
        """L3, L15"""
        for file in FILES:
            names = top_names(file)
            self.assertEqual(len(names), len(set(names)), file.name)
            self.assertIsNotNone(ast.get_docstring(tree_of(file)), file.name)

    def test_what_stands_at_a_top(self):
        """L3, L5, L15: plain values and defs of the file itself; in a class methods alone."""
        for file in FILES:
            known = []
            for at, node in enumerate(tree_of(file).body):
                if isinstance(node, ast.FunctionDef):
                    known.append(node.name)
                elif isinstance(node, ast.Assign):
                    self.assertTrue(is_plain(node.value, known), f"{file.name}:{node.lineno}")
                elif isinstance(node, ast.Expr):
                    self.assertEqual(at, 0, f"{file.name}:{node.lineno}")
                else:
                    self.assertIsInstance(node, (ast.ImportFrom, ast.ClassDef))
        for node, place in nodes(ast.ClassDef):
            for part in node.body:
                self.assertTrue(
                    isinstance(part, ast.FunctionDef)
                    or isinstance(part, ast.Expr) and isinstance(part.value, ast.Constant), place)

    def test_locals_are_called_unlike_imports_and_classes(self):
        """L15"""
        for file in FILES:
            tree = tree_of(file)
            drawn = [name for name in top_names(file) if name not in own_names(file)]
            drawn += [node.name for node in tree.body if isinstance(node, ast.ClassDef)]
            given = [node.arg for node in ast.walk(tree) if isinstance(node, ast.arg)]
            names = [node for node in ast.walk(tree) if isinstance(node, ast.Name)]
            given += [node.id for node in names if isinstance(node.ctx, ast.Store)]
            self.assertEqual(set(drawn) & set(given), set(), file.name)

    def test_names_that_are_not_used(self):
        """L8, L12, L17"""
        for node, place in nodes(ast.Name, ast.Attribute, ast.arg, ast.FunctionDef, ast.ClassDef):
            for field in ("id", "attr", "arg", "name"):
                name = getattr(node, field, "")
                self.assertNotIn(name, NAMES_OUT, place)
                self.assertTrue(not name.startswith("_") or name in OWN_DOUBLE, place)

    def test_methods_and_values_of_own_classes(self):
        """L18, L26"""
        pythons = {name for kind in (str, int, list, dict, set, bytes, tuple) for name in dir(kind)}
        methods = [
            part.name for node, _ in nodes(ast.ClassDef) for part in node.body if isinstance(part, ast.FunctionDef)]
        values = [node.attr for node, _ in nodes(ast.Attribute) if isinstance(node.ctx, ast.Store)]
        self.assertEqual(set(methods) & set(values), set())
        self.assertEqual((set(methods) - set(OWN_DOUBLE) | set(values)) & pythons, set())
        calls = [node.func for node, _ in nodes(ast.Call)]
        for node, place in nodes(ast.Attribute):
            if not any(ast.dump(node) == ast.dump(call) for call in calls):
                self.assertIn(node.attr, values, place)

    def test_errors_are_made_on_the_spot_and_taken_by_name(self):
        """L19"""
        errors = own_names(PACKAGE / "errors.py")
        for node, place in nodes(ast.Raise):
            self.assertIn(called(node.exc), errors, place)
            self.assertEqual(node.exc.keywords, [], place)
        for node, place in nodes(ast.ExceptHandler):
            self.assertIn(getattr(node.type, "id", None), errors, place)

    def test_what_is_walked_on_the_spot(self):
        """L23"""
        allowed = []
        for node, _ in nodes(ast.For, ast.comprehension):
            allowed.append(ast.dump(node.iter))
        for node, _ in nodes(ast.Call):
            if called(node) in WALKERS:
                allowed += [ast.dump(part) for part in node.args]
        for node, place in nodes(ast.Call):
            if called(node) in WALKED:
                self.assertIn(ast.dump(node), allowed, place)

    def test_keywords(self):
        """L22: none stands in this package."""
        for node, place in nodes(ast.Call):
            self.assertEqual(node.keywords, [], place)

    def test_numbers_and_texts(self):
        """L27"""
        for node, place in nodes(ast.Constant):
            if isinstance(node.value, str):
                self.assertNotIn("%", node.value, place)
        for file in FILES:
            self.assertIsNone(re.search(r"\\[^nt\\'\"]", file.read_text("utf-8")), file.name)
        for node, place in nodes(ast.FormattedValue):
            self.assertIsNone(node.format_spec, place)
            self.assertEqual([part for part in ast.walk(node.value) if isinstance(part, ast.Constant)], [], place)
        self.assertEqual([place for _, place in nodes(ast.Pow)], [])

    def test_statements_and_values(self):
        """L6, L7"""
        for node, place in nodes(*NODES_OUT):
            self.fail(f"{place} {node}")
        for node, place in nodes(ast.Constant):
            self.assertNotIsInstance(node.value, (float, complex), place)
        for node, place in nodes(ast.For, ast.While):
            self.assertEqual(node.orelse, [], place)

    def test_defs(self):
        """L4, L5"""
        for node, place in nodes(ast.FunctionDef):
            self.assertEqual(node.decorator_list, [], place)
            self.assertIsNone(node.args.vararg or node.args.kwarg, place)
            self.assertEqual(node.args.posonlyargs, [], place)
        for node, place in nodes(ast.ClassDef):
            self.assertEqual(node.decorator_list, [], place)
            self.assertLessEqual(len(node.bases), 1, place)

    def test_names(self):
        """L8, L12, L15"""
        for file in FILES:
            bound = top_names(file)
            for node in ast.walk(tree_of(file)):
                if isinstance(node, ast.arg):
                    bound.append(node.arg)
                elif isinstance(node, ast.Name) and isinstance(node.ctx, ast.Store):
                    bound.append(node.id)
            for name in bound:
                self.assertRegex(name, r"^[A-Za-z][A-Za-z0-9_]*$", file.name)
                self.assertNotIn(name, dir(builtins), file.name)
            for node in ast.walk(tree_of(file)):
                if isinstance(node, ast.Name):
                    self.assertIn(node.id, bound + PYTHONS_NAMES, file.name)

    def test_methods(self):
        """L24, L25, L26"""
        own = [node.name for node, _ in nodes(ast.FunctionDef)]
        for node, place in nodes(ast.Call):
            if isinstance(node.func, ast.Attribute):
                self.assertIn(node.func.attr, METHODS + own, place)

    def test_no_file_draws_from_one_that_draws_from_it(self):
        """L16"""
        draws = {file.stem: set() for file in FILES}
        for file in FILES:
            for node in tree_of(file).body:
                if isinstance(node, ast.ImportFrom):
                    draws[file.stem].add(node.module.split(".")[1])
        while draws:
            free = [stem for stem, drawn in draws.items() if not drawn & set(draws)]
            self.assertNotEqual(free, [], draws)
            for stem in free:
                del draws[stem]

    def test_is_stands_beside_none_true_and_false_alone(self):
        """L20"""
        for node, place in nodes(ast.Compare):
            for sign, right in zip(node.ops, node.comparators):
                if isinstance(sign, (ast.Is, ast.IsNot)):
                    self.assertIn(getattr(right, "value", "other"), (None, True, False), place)


if __name__ == "__main__":
    unittest.main()
