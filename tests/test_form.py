"""The package keeps to a small part of Python; what of that a look at its files can tell."""

import ast
import builtins
import pathlib
import re
import unittest

PACKAGE = pathlib.Path(__file__).resolve().parent.parent / "iceline"

STATEMENTS = (ast.Assign, ast.AugAssign, ast.If, ast.While, ast.For, ast.Return, ast.Break, ast.Continue,
              ast.Pass, ast.Raise, ast.Try, ast.Expr, ast.FunctionDef, ast.ClassDef, ast.ImportFrom)
EXPRESSIONS = (ast.Constant, ast.Name, ast.List, ast.Tuple, ast.Dict, ast.BinOp, ast.UnaryOp, ast.BoolOp,
               ast.Compare, ast.IfExp, ast.Call, ast.Attribute, ast.Subscript, ast.Slice, ast.ListComp,
               ast.Lambda, ast.JoinedStr, ast.FormattedValue)
OWN_OF_PYTHON = set("""len range enumerate zip min max sum abs sorted reversed int str bool list tuple dict
    set frozenset isinstance ord repr any all divmod""".split())
METHODS = set("""append clear copy count endswith extend find get index insert isalnum isalpha isdigit islower
    isspace isupper items join keys ljust lower lstrip partition pop remove replace reverse rfind rjust
    rpartition rsplit rstrip setdefault split splitlines startswith strip update upper values zfill
    bit_length""".split())
WORDS = re.compile(r"\b(type|typing|typing_extensions|enum|Enum|IntEnum|StrEnum|Flag|IntFlag|Generic|Protocol"
                   r"|ABC|ABCMeta|namedtuple|NamedTuple|TypedDict|TYPE_CHECKING|abstractmethod)\b"
                   r"|dataclass|overload|contextmanager")
NOT_AS_NAMES = set("""register mro elements open input version_info with_traceback add_note attrgetter
    breakpoint builtins compile copyright credits delattr dir eval exec exit gc getattr globals hasattr help
    id importlib license locals methodcaller os quit setattr super type vars sys format hash next map filter
    iter object print property float bytes slice round pow""".split())


WALKED = ("zip", "enumerate", "reversed", "range", "items", "keys", "values")
WALKERS = ("list", "tuple", "dict", "sorted", "sum", "any", "all", "enumerate", "zip", "min", "max", "join")
CHANGERS = ("append", "clear", "extend", "insert", "pop", "remove", "reverse", "setdefault", "update", "sort")


def files():
    return sorted(PACKAGE.glob("*.py"))


def bound(function):
    """The parameters and locals of a def."""
    names = {each.arg for each in ast.walk(function) if isinstance(each, ast.arg)}
    return names | {each.id for each in ast.walk(function)
                    if isinstance(each, ast.Name) and isinstance(each.ctx, ast.Store)}


def called(node):
    """The name of the function or method that is called, or None."""
    if not isinstance(node, ast.Call):
        return None
    return node.func.id if isinstance(node.func, ast.Name) else getattr(node.func, "attr", None)


def base_name(node):
    """The name in front of indexes and attributes, or None."""
    while isinstance(node, (ast.Subscript, ast.Attribute)):
        node = node.value
    return getattr(node, "id", None)


def top_names(tree):
    """The names bound at a file's top, each as often as it is bound."""
    names = []
    for row in tree.body:
        if isinstance(row, ast.Assign):
            names += [target.id for target in row.targets]
        if isinstance(row, (ast.FunctionDef, ast.ClassDef)):
            names.append(row.name)
        if isinstance(row, ast.ImportFrom):
            names += [each.name for each in row.names]
    return names


class Form(unittest.TestCase):
    def test_only_plain_files_lie_in_the_package(self):
        found = [each.name for each in PACKAGE.iterdir() if each.name != "__pycache__"]
        self.assertIn("coast.py", found)
        for name in found:
            self.assertRegex(name, r"^(__init__|[a-z][a-z0-9_]*)\.py$")

    def test_signs_rows_and_sizes(self):
        for file in files():
            text = file.read_bytes().decode("ascii")
            self.assertRegex(text, r"\A[ -~\n]*\Z", file)
            self.assertIsNone(WORDS.search(text), file)
            self.assertLessEqual(len(text.splitlines()), 399, file)
            self.assertLessEqual(max(len(row) for row in text.splitlines()), 120, file)

    def test_statements_and_expressions(self):
        for file in files():
            for node in ast.walk(ast.parse(file.read_text())):
                where = (file.name, getattr(node, "lineno", None), node)
                if isinstance(node, ast.stmt):
                    self.assertIsInstance(node, STATEMENTS, where)
                if isinstance(node, ast.expr):
                    self.assertIsInstance(node, EXPRESSIONS, where)
                if isinstance(node, ast.Constant):
                    self.assertIsInstance(node.value, (int, str, type(None)), where)
                if isinstance(node, ast.Assign):
                    self.assertEqual(len(node.targets), 1, where)
                self.assertNotIsInstance(node, ast.Div, where)
                if isinstance(node, ast.Compare) and isinstance(node.ops[0], (ast.Is, ast.IsNot)):
                    self.assertIn(ast.unparse(node.comparators[0]), ("None", "True", "False"), where)

    def test_functions(self):
        for file in files():
            for node in ast.walk(ast.parse(file.read_text())):
                if not isinstance(node, ast.FunctionDef):
                    continue
                where = (file.name, node.name)
                self.assertLessEqual(node.end_lineno - node.lineno + 1, 40, where)
                self.assertEqual(node.decorator_list, [], where)
                self.assertIsNone(node.args.vararg or node.args.kwarg, where)
                self.assertEqual(node.args.kwonlyargs + node.args.posonlyargs, [], where)

    def test_imports_are_of_the_packages_own_files(self):
        for file in files():
            for node in ast.walk(ast.parse(file.read_text())):
                if isinstance(node, ast.ImportFrom):
                    self.assertEqual(node.level, 0, file)
                    self.assertRegex(node.module, r"^iceline\.[a-z_]+$", file)
                    source = ast.parse((PACKAGE / (node.module.split(".")[1] + ".py")).read_text())
                    defined = [row for row in source.body if not isinstance(row, ast.ImportFrom)]
                    for each in node.names:
                        self.assertIsNone(each.asname, file)
                        self.assertIn(each.name, top_names(ast.Module(defined, [])), file)

    def test_names(self):
        for file in files():
            tree = ast.parse(file.read_text())
            top = top_names(tree)
            self.assertEqual(len(top), len(set(top)), file)
            for node in ast.walk(tree):
                if isinstance(node, ast.FunctionDef):
                    clash = bound(node) & (set(top) | OWN_OF_PYTHON | NOT_AS_NAMES)
                    self.assertEqual(clash, set(), (file.name, node.name))
                    self.assertEqual([name for name in bound(node) if name.startswith("_")], [])
                if isinstance(node, ast.Name):
                    self.assertNotIn(node.id, NOT_AS_NAMES, file)

    def test_only_known_names_are_called(self):
        for file in files():
            tree = ast.parse(file.read_text())
            for node in ast.walk(tree):
                if isinstance(node, ast.Call) and isinstance(node.func, ast.Name):
                    self.assertIn(node.func.id, OWN_OF_PYTHON | set(top_names(tree)), file)
                if isinstance(node, ast.Call) and isinstance(node.func, ast.Attribute):
                    self.assertIn(node.func.attr, METHODS, file)

    def test_top_of_a_module(self):
        for file in files():
            tree = ast.parse(file.read_text())
            self.assertTrue(ast.get_docstring(tree), file)
            for row in tree.body[1:]:
                self.assertIsInstance(row, (ast.ImportFrom, ast.FunctionDef, ast.ClassDef, ast.Assign), file)
            kinds = [isinstance(row, ast.ImportFrom) for row in tree.body[1:]]
            self.assertEqual(kinds, sorted(kinds, reverse=True), file)

    def test_what_stands_at_a_files_top_is_only_read(self):
        for file in files():
            tree = ast.parse(file.read_text())
            kept = {}
            for row in tree.body:
                if isinstance(row, ast.Assign) and isinstance(row.value, (ast.List, ast.Dict, ast.Tuple)):
                    kept[row.targets[0].id] = row.value
            for held in kept.values():
                inner = [node for node in ast.walk(held) if isinstance(node, (ast.List, ast.Dict))]
                self.assertIn(inner, ([], [held]), file)
            for node in ast.walk(tree):
                if isinstance(node, (ast.Subscript, ast.Attribute)) and isinstance(node.ctx, ast.Store):
                    self.assertNotIn(base_name(node), kept, file)
                if called(node) in CHANGERS and isinstance(node.func, ast.Attribute):
                    self.assertNotIn(base_name(node.func), kept, file)
                if isinstance(node, ast.Return) and isinstance(node.value, ast.Name):
                    self.assertNotIn(node.value.id, kept, file)

    def test_no_files_draw_from_one_another(self):
        drawn = {}
        for file in files():
            rows = [row for row in ast.parse(file.read_text()).body if isinstance(row, ast.ImportFrom)]
            drawn[file.stem] = {row.module.split(".")[1] for row in rows}
        self.assertEqual(drawn["__init__"], set())
        while drawn:
            free = [name for name in drawn if not drawn[name] & set(drawn)]
            self.assertNotEqual(free, [], drawn)
            for name in free:
                drawn.pop(name)

    def test_file_names_are_not_like_names_of_pythons_own(self):
        for file in files():
            self.assertNotIn(file.stem, dir(builtins))
            self.assertNotRegex(file.stem, r"^(tests?|testing|test_.*|site|conftest|sitecustomize|usercustomize)$")

    def test_answers_stands_in_one_file(self):
        for file in files():
            names = top_names(ast.parse(file.read_text()))
            self.assertEqual("answers" in names, file.name == "coast.py", file)

    def test_every_name_that_is_read_is_known(self):
        for file in files():
            tree = ast.parse(file.read_text())
            for row in tree.body:
                known = OWN_OF_PYTHON | set(top_names(tree))
                for node in ast.walk(row):
                    if isinstance(node, ast.FunctionDef):
                        known = known | bound(node)
                for node in ast.walk(row):
                    if isinstance(node, ast.Name) and isinstance(node.ctx, ast.Load):
                        self.assertIn(node.id, known, file)

    def test_names_are_plain(self):
        for file in files():
            for node in ast.walk(ast.parse(file.read_text())):
                for name in (getattr(node, "id", None), getattr(node, "arg", None), getattr(node, "attr", None)):
                    if name is not None:
                        self.assertRegex(name, r"^[A-Za-z][A-Za-z0-9_]*$", file)
                if isinstance(node, ast.FunctionDef) and node.name != "__init__":
                    self.assertRegex(node.name, r"^[a-z][a-z0-9_]*$", file)
                    self.assertNotIn(node.name, dir(builtins), file)
                if isinstance(node, ast.Attribute):
                    self.assertNotIn(node.attr, NOT_AS_NAMES, file)

    def test_what_is_walked_is_not_kept(self):
        for file in files():
            tree = ast.parse(file.read_text())
            fine = []
            for node in ast.walk(tree):
                if isinstance(node, (ast.For, ast.comprehension)):
                    fine.append(node.iter)
                if called(node) in WALKERS:
                    fine += node.args[:1]
            for node in ast.walk(tree):
                if called(node) in WALKED:
                    self.assertIn(node, fine, (file, node.lineno))

    def test_what_a_loop_walks_is_not_changed_in_it(self):
        for file in files():
            for loop in ast.walk(ast.parse(file.read_text())):
                if not isinstance(loop, ast.For):
                    continue
                self.assertEqual(loop.orelse, [], file)
                walked = {base_name(node) for node in ast.walk(loop.iter)} - {None}
                for node in (each for row in loop.body for each in ast.walk(row)):
                    if isinstance(node, (ast.Name, ast.Subscript)) and isinstance(node.ctx, ast.Store):
                        self.assertNotIn(base_name(node), walked, file)
                    if called(node) in CHANGERS:
                        self.assertNotIn(base_name(node.func), walked, file)

    def test_comprehensions_numbers_and_texts(self):
        for file in files():
            for node in ast.walk(ast.parse(file.read_text())):
                if isinstance(node, ast.ListComp):
                    self.assertEqual(len(node.generators), 1, file)
                    self.assertLessEqual(len(node.generators[0].ifs), 1, file)
                if isinstance(node, ast.Constant) and isinstance(node.value, str):
                    self.assertNotIn("%", node.value, file)
                self.assertNotIsInstance(node, ast.Pow, file)
                self.assertFalse(called(node) == "set", file)


if __name__ == "__main__":
    unittest.main()
