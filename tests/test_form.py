"""Holds the package's files to the written form of the language that they keep to."""

import ast
import pathlib
import re
import unittest

PACKAGE = pathlib.Path(__file__).resolve().parent.parent / "playboard"

STATEMENTS = (
    ast.Assign, ast.AugAssign, ast.If, ast.While, ast.For, ast.Return, ast.Break, ast.Continue, ast.Pass, ast.Raise,
    ast.Try, ast.Expr, ast.FunctionDef, ast.ClassDef, ast.ImportFrom,
)
EXPRESSIONS = (
    ast.Constant, ast.Name, ast.List, ast.Tuple, ast.Dict, ast.Set, ast.BinOp, ast.UnaryOp, ast.BoolOp, ast.Compare,
    ast.IfExp, ast.Call, ast.Attribute, ast.Subscript, ast.Slice, ast.ListComp, ast.JoinedStr, ast.FormattedValue,
    ast.Lambda,
)
BUILTINS = set(
    "len range enumerate zip min max sum abs sorted reversed int str bool list tuple dict set frozenset isinstance ord "
    "repr any all divmod Exception ValueError KeyError IndexError LookupError ZeroDivisionError ArithmeticError "
    "OverflowError RuntimeError NotImplementedError StopIteration".split()
)
PYTHONS_OWN = set(dir(__builtins__) if not isinstance(__builtins__, dict) else __builtins__)
METHODS = set(
    "append clear copy count endswith extend find get index insert isalnum isalpha isdigit islower isspace isupper items "
    "join keys ljust lower lstrip partition pop remove replace reverse rfind rjust rpartition rsplit rstrip setdefault "
    "split splitlines startswith strip update upper values zfill bit_length".split()
)
SPECIAL = set("__init__ __eq__ __repr__ __str__ __len__".split())
NAMES_OUT = set("register mro elements open input version_info with_traceback add_note format format_map".split())
WORDS_OUT = re.compile(
    r"\b(type|typing|typing_extensions|enum|Enum|IntEnum|StrEnum|Flag|IntFlag|Generic|Protocol|ABC|ABCMeta|namedtuple"
    r"|NamedTuple|TypedDict|TYPE_CHECKING|abstractmethod)\b|dataclass|overload|contextmanager"
)


def sources():
    return sorted(path for path in PACKAGE.rglob("*") if "__pycache__" not in path.parts)


def trees():
    return [(path, ast.parse(path.read_text(encoding="ascii"))) for path in sources()]


def nodes():
    return [(path, node) for path, tree in trees() for node in ast.walk(tree)]


def of_kind(kind):
    return [(path, node) for path, node in nodes() if isinstance(node, kind)]


def bound_names(node):
    """The names that a node binds, wherever it stands."""
    if isinstance(node, (ast.FunctionDef, ast.ClassDef)):
        return [node.name]
    if isinstance(node, ast.Name) and isinstance(node.ctx, ast.Store):
        return [node.id]
    if isinstance(node, ast.arg):
        return [node.arg]
    if isinstance(node, ast.ExceptHandler) and node.name:
        return [node.name]
    if isinstance(node, ast.ImportFrom):
        return [alias.asname or alias.name for alias in node.names]
    return []


class TestForm(unittest.TestCase):
    def told(self, path, node, words):
        return f"{path.name}:{getattr(node, 'lineno', 0)}: {words}"

    def test_files(self):
        self.assertIn(PACKAGE / "__init__.py", sources())
        for path in sources():
            self.assertTrue(path.is_file(), path)
            self.assertRegex(path.name, r"^(__init__|__main__|[a-z][a-z0-9_]*)\.py$")
            self.assertNotRegex(path.name, r"^(test.*|site|conftest|sitecustomize|usercustomize)\.py$")
            self.assertFalse(path.stem in PYTHONS_OWN, path)

    def test_signs_and_lengths(self):
        for path in sources():
            text = path.read_bytes().decode("ascii")
            self.assertRegex(text, r"\A[\n -~]*\Z", path)
            lines = text.split("\n")
            self.assertLessEqual(len(lines), 401, path)
            self.assertLessEqual(max(len(line) for line in lines), 120, path)
            self.assertIsNone(WORDS_OUT.search(text), path)

    def test_statements_and_expressions(self):
        for path, node in nodes():
            if isinstance(node, ast.stmt):
                self.assertIsInstance(node, STATEMENTS, self.told(path, node, "statement"))
            if isinstance(node, ast.expr):
                self.assertIsInstance(node, EXPRESSIONS, self.told(path, node, "expression"))
            if isinstance(node, ast.Constant):
                allowed = (int, str, bool, type(None))
                self.assertIsInstance(node.value, allowed, self.told(path, node, "value"))
                self.assertNotIn("%", str(node.value), self.told(path, node, "percent sign"))
            if isinstance(node, ast.BinOp):
                self.assertNotIsInstance(node.op, (ast.Div, ast.MatMult), self.told(path, node, "division"))
            if isinstance(node, ast.Assign):
                self.assertEqual(len(node.targets), 1, self.told(path, node, "targets"))
            if isinstance(node, (ast.For, ast.While)):
                self.assertEqual(node.orelse, [], self.told(path, node, "else behind a loop"))

    def test_lone_expressions_are_calls(self):
        for path, tree in trees():
            for node in ast.walk(tree):
                if isinstance(node, ast.Expr) and node is not tree.body[0]:
                    self.assertIsInstance(node.value, ast.Call, self.told(path, node, "lone expression"))

    def test_powers_have_a_written_exponent(self):
        for path, node in of_kind(ast.BinOp):
            if isinstance(node.op, ast.Pow):
                self.assertIsInstance(node.right, ast.Constant, self.told(path, node, "power"))
                self.assertIn(node.right.value, range(65), self.told(path, node, "power"))

    def test_comprehensions(self):
        for path, node in of_kind(ast.ListComp):
            self.assertEqual(len(node.generators), 1, self.told(path, node, "for"))
            self.assertLessEqual(len(node.generators[0].ifs), 1, self.told(path, node, "if"))

    def test_functions(self):
        for path, node in of_kind(ast.FunctionDef):
            self.assertLessEqual(node.end_lineno - node.lineno + 1, 40, self.told(path, node, "length"))
            self.assertEqual(node.decorator_list, [], self.told(path, node, "decorator"))
            self.assertEqual(node.args.kwonlyargs + node.args.posonlyargs, [], self.told(path, node, "parameters"))
            self.assertEqual((node.args.vararg, node.args.kwarg), (None, None), self.told(path, node, "star"))

    def test_classes(self):
        for path, tree in trees():
            for node in ast.walk(tree):
                if isinstance(node, ast.ClassDef):
                    self.assertIn(node, tree.body, self.told(path, node, "class within"))
                    self.assertLessEqual(len(node.bases), 1, self.told(path, node, "bases"))
                    self.assertEqual(node.decorator_list + node.keywords, [], self.told(path, node, "decorator"))
                    for part in node.body:
                        self.assertIsInstance(part, (ast.FunctionDef, ast.Pass), self.told(path, part, "class body"))

    def test_names(self):
        for path, node in nodes():
            for name in bound_names(node):
                if name not in SPECIAL:
                    self.assertRegex(name, r"^[A-Za-z][A-Za-z0-9_]*$", self.told(path, node, name))
                self.assertNotIn(name, NAMES_OUT, self.told(path, node, name))

    def test_no_name_of_pythons_own_gets_another_meaning(self):
        for path, tree in trees():
            methods = [part for node in tree.body if isinstance(node, ast.ClassDef) for part in node.body]
            for node in ast.walk(tree):
                if node not in methods:
                    self.assertEqual(PYTHONS_OWN & set(bound_names(node)), set(), self.told(path, node, "name"))

    def test_only_known_names_of_pythons_own_are_read(self):
        for path, tree in trees():
            bound = {name for node in ast.walk(tree) for name in bound_names(node)}
            for node in ast.walk(tree):
                if isinstance(node, ast.Name):
                    self.assertIn(node.id, bound | BUILTINS, self.told(path, node, node.id))

    def test_attributes(self):
        own = {part.name for _, node in of_kind(ast.ClassDef) for part in node.body if isinstance(part, ast.FunctionDef)}
        values = {node.attr for _, node in of_kind(ast.Attribute) if isinstance(node.ctx, ast.Store)}
        self.assertEqual(own & values, set())
        for path, node in of_kind(ast.Attribute):
            self.assertIn(node.attr, own | values | METHODS, self.told(path, node, node.attr))
            self.assertNotIn(node.attr, NAMES_OUT, self.told(path, node, node.attr))

    def test_is_stands_beside_none_and_truths_alone(self):
        for path, node in of_kind(ast.Compare):
            for operator, right in zip(node.ops, node.comparators):
                if isinstance(operator, (ast.Is, ast.IsNot)):
                    self.assertIsInstance(right, ast.Constant, self.told(path, node, "is"))
                    self.assertIn(right.value, (None, True, False), self.told(path, node, "is"))

    def test_imports(self):
        for path, tree in trees():
            for node in ast.walk(tree):
                if isinstance(node, ast.ImportFrom):
                    self.assertIn(node, tree.body, self.told(path, node, "import within"))
                    self.assertEqual(node.level, 0, self.told(path, node, "leading dot"))
                    self.assertRegex(node.module, r"^playboard\.[a-z][a-z0-9_]*$", self.told(path, node, "import"))
                    self.defined_in(path, node)

    def defined_in(self, path, node):
        drawn = ast.parse((PACKAGE / (node.module.split(".")[1] + ".py")).read_text(encoding="ascii"))
        heads = [part for part in drawn.body if isinstance(part, (ast.FunctionDef, ast.ClassDef))]
        names = [part.name for part in heads]
        names += [part.targets[0].id for part in drawn.body if isinstance(part, ast.Assign)]
        for alias in node.names:
            self.assertIn(alias.name, names, self.told(path, node, alias.name))

    def test_no_two_files_draw_from_one_another(self):
        drawn = {path.stem: [] for path in sources()}
        for path, node in of_kind(ast.ImportFrom):
            drawn[path.stem].append(node.module.split(".")[1])
        while drawn:
            free = [name for name in drawn if not any(other in drawn for other in drawn[name])]
            self.assertNotEqual(free, [], drawn)
            for name in free:
                drawn.pop(name)

    def test_top_of_each_file(self):
        for path, tree in trees():
            self.assertIsNotNone(ast.get_docstring(tree), path)
            names = [name for node in tree.body for name in bound_names(node)]
            names += [node.targets[0].id for node in tree.body if isinstance(node, ast.Assign)]
            self.assertEqual(len(names), len(set(names)), path)
            for node in tree.body[1:]:
                allowed = (ast.ImportFrom, ast.FunctionDef, ast.ClassDef, ast.Assign)
                self.assertIsInstance(node, allowed, self.told(path, node, "top"))


if __name__ == "__main__":
    unittest.main()
