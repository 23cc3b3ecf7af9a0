"""The package keeps to a small part of Python; what of that a look at its files can tell."""

import ast
import pathlib
import re
import unittest

PACKAGE = pathlib.Path(__file__).resolve().parent.parent / "iceline"

STATEMENTS = (ast.Assign, ast.AugAssign, ast.If, ast.While, ast.For, ast.Return, ast.Break, ast.Continue,
              ast.Pass, ast.Raise, ast.Try, ast.Expr, ast.FunctionDef, ast.ClassDef, ast.ImportFrom)
EXPRESSIONS = (ast.Constant, ast.Name, ast.List, ast.Tuple, ast.Dict, ast.BinOp, ast.UnaryOp, ast.BoolOp,
               ast.Compare, ast.IfExp, ast.Call, ast.Attribute, ast.Subscript, ast.Slice, ast.ListComp,
               ast.Lambda, ast.JoinedStr, ast.FormattedValue)
OWN_OF_PYTHON = set("""len range enumerate zip min max sum abs sorted reversed int str bool list tuple dict
    set frozenset isinstance ord repr any all divmod""".split())
METHODS = set("""append clear copy count endswith extend find get index insert isalnum isalpha isdigit islower
    isspace isupper items join keys ljust lower lstrip partition pop remove replace reverse rfind rjust
    rpartition rsplit rstrip setdefault split splitlines startswith strip update upper values zfill
    bit_length""".split())
WORDS = re.compile(r"\b(type|typing|typing_extensions|enum|Enum|IntEnum|StrEnum|Flag|IntFlag|Generic|Protocol"
                   r"|ABC|ABCMeta|namedtuple|NamedTuple|TypedDict|TYPE_CHECKING|abstractmethod)\b"
                   r"|dataclass|overload|contextmanager")
NOT_AS_NAMES = set("""register mro elements open input version_info with_traceback add_note attrgetter
    breakpoint builtins compile copyright credits delattr dir eval exec exit gc getattr globals hasattr help
    id importlib license locals methodcaller os quit setattr super type vars sys format hash next map filter
    iter object print property float bytes slice round pow""".split())


def files():
    return sorted(PACKAGE.glob("*.py"))


def bound(function):
    """The parameters and locals of a def."""
    names = {each.arg for each in ast.walk(function) if isinstance(each, ast.arg)}
    return names | {each.id for each in ast.walk(function)
                    if isinstance(each, ast.Name) and isinstance(each.ctx, ast.Store)}


def top_names(tree):
    """The names bound at a file's top, each as often as it is bound."""
    names = []
    for row in tree.body:
        if isinstance(row, ast.Assign):
            names += [target.id for target in row.targets]
        if isinstance(row, (ast.FunctionDef, ast.ClassDef)):
            names.append(row.name)
        if isinstance(row, ast.ImportFrom):
            names += [each.name for each in row.names]
    return names


class Form(unittest.TestCase):
    def test_only_plain_files_lie_in_the_package(self):
        found = [each.name for each in PACKAGE.iterdir() if each.name != "__pycache__"]
        self.assertIn("coast.py", found)
        for name in found:
            self.assertRegex(name, r"^(__init__|[a-z][a-z0-9_]*)\.py$")

    def test_signs_rows_and_sizes(self):
        for file in files():
            text = file.read_bytes().decode("ascii")
            self.assertRegex(text, r"\A[ -~\n]*\Z", file)
            self.assertIsNone(WORDS.search(text), file)
            self.assertLessEqual(len(text.splitlines()), 399, file)
            self.assertLessEqual(max(len(row) for row in text.splitlines()), 120, file)

    def test_statements_and_expressions(self):
        for file in files():
            for node in ast.walk(ast.parse(file.read_text())):
                where = (file.name, getattr(node, "lineno", None), node)
                if isinstance(node, ast.stmt):
                    self.assertIsInstance(node, STATEMENTS, where)
                if isinstance(node, ast.expr):
                    self.assertIsInstance(node, EXPRESSIONS, where)
                if isinstance(node, ast.Constant):
                    self.assertIsInstance(node.value, (int, str, type(None)), where)
                if isinstance(node, ast.Assign):
                    self.assertEqual(len(node.targets), 1, where)
                self.assertNotIsInstance(node, ast.Div, where)
                if isinstance(node, ast.Compare) and isinstance(node.ops[0], (ast.Is, ast.IsNot)):
                    self.assertIn(ast.unparse(node.comparators[0]), ("None", "True", "False"), where)

    def test_functions(self):
        for file in files():
            for node in ast.walk(ast.parse(file.read_text())):
                if not isinstance(node, ast.FunctionDef):
                    continue
                where = (file.name, node.name)
                self.assertLessEqual(node.end_lineno - node.lineno + 1, 40, where)
                self.assertEqual(node.decorator_list, [], where)
                self.assertIsNone(node.args.vararg or node.args.kwarg, where)
                self.assertEqual(node.args.kwonlyargs + node.args.posonlyargs, [], where)

    def test_imports_are_of_the_packages_own_files(self):
        for file in files():
            for node in ast.walk(ast.parse(file.read_text())):
                if isinstance(node, ast.ImportFrom):
                    self.assertEqual(node.level, 0, file)
                    self.assertRegex(node.module, r"^iceline\.[a-z_]+$", file)
                    source = ast.parse((PACKAGE / (node.module.split(".")[1] + ".py")).read_text())
                    defined = [row for row in source.body if not isinstance(row, ast.ImportFrom)]
                    for each in node.names:
                        self.assertIsNone(each.asname, file)
                        self.assertIn(each.name, top_names(ast.Module(defined, [])), file)

    def test_names(self):
        for file in files():
            tree = ast.parse(file.read_text())
            top = top_names(tree)
            self.assertEqual(len(top), len(set(top)), file)
            for node in ast.walk(tree):
                if isinstance(node, ast.FunctionDef):
                    clash = bound(node) & (set(top) | OWN_OF_PYTHON | NOT_AS_NAMES)
                    self.assertEqual(clash, set(), (file.name, node.name))
                    self.assertEqual([name for name in bound(node) if name.startswith("_")], [])
                if isinstance(node, ast.Name):
                    self.assertNotIn(node.id, NOT_AS_NAMES, file)

    def test_only_known_names_are_called(self):
        for file in files():
            tree = ast.parse(file.read_text())
            for node in ast.walk(tree):
                if isinstance(node, ast.Call) and isinstance(node.func, ast.Name):
                    self.assertIn(node.func.id, OWN_OF_PYTHON | set(top_names(tree)), file)
                if isinstance(node, ast.Call) and isinstance(node.func, ast.Attribute):
                    self.assertIn(node.func.attr, METHODS, file)


if __name__ == "__main__":
    unittest.main()
