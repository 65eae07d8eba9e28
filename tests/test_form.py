"""Holds the package's files to the written form of the language that they keep to."""

import ast
import pathlib
import re
import unittest

PACKAGE = pathlib.Path(__file__).resolve().parent.parent / "playboard"

STATEMENTS = (
    ast.Assign, ast.AugAssign, ast.If, ast.While, ast.For, ast.Return, ast.Break, ast.Continue, ast.Pass, ast.Raise,
    ast.Try, ast.Expr, ast.FunctionDef, ast.ClassDef, ast.ImportFrom,
)
EXPRESSIONS = (
    ast.Constant, ast.Name, ast.List, ast.Tuple, ast.Dict, ast.Set, ast.BinOp, ast.UnaryOp, ast.BoolOp, ast.Compare,
    ast.IfExp, ast.Call, ast.Attribute, ast.Subscript, ast.Slice, ast.ListComp, ast.JoinedStr, ast.FormattedValue,
    ast.Lambda,
)
BUILTINS = set(
    "len range enumerate zip min max sum abs sorted reversed int str bool list tuple dict set frozenset isinstance ord "
    "repr any all divmod Exception ValueError KeyError IndexError LookupError ZeroDivisionError ArithmeticError "
    "OverflowError RuntimeError NotImplementedError StopIteration".split()
)
PYTHONS_OWN = set(dir(__builtins__) if not isinstance(__builtins__, dict) else __builtins__)
METHODS = set(
    "append clear copy count endswith extend find get index insert isalnum isalpha isdigit islower isspace isupper items "
    "join keys ljust lower lstrip partition pop remove replace reverse rfind rjust rpartition rsplit rstrip setdefault "
    "split splitlines startswith strip update upper values zfill bit_length".split()
)
SPECIAL = set("__init__ __eq__ __repr__ __str__ __len__".split())
NAMES_OUT = set("register mro elements open input version_info with_traceback add_note format format_map".split())
WORDS_OUT = re.compile(
    r"\b(type|typing|typing_extensions|enum|Enum|IntEnum|StrEnum|Flag|IntFlag|Generic|Protocol|ABC|ABCMeta|namedtuple"
    r"|NamedTuple|TypedDict|TYPE_CHECKING|abstractmethod)\b|dataclass|overload|contextmanager"
)


LAZY = set("zip enumerate reversed range".split())
LAZY_METHODS = set("items keys values".split())
LAZY_TAKERS = set("list tuple dict sorted sum any all enumerate zip".split())
KEYWORDS = {
    "sorted": {"key", "reverse"}, "min": {"key", "default"}, "max": {"key", "default"}, "sum": {"start"},
    "enumerate": {"start"}, "zip": {"strict"},
}
CHANGING_METHODS = set("append clear extend insert pop remove reverse setdefault update".split())
READERS = set("len sorted list tuple dict min max sum any all enumerate zip reversed".split())
READING_METHODS = set("get index count items keys values copy".split())


def sources():
    return sorted(path for path in PACKAGE.rglob("*") if "__pycache__" not in path.parts)


def trees():
    return [(path, ast.parse(path.read_text(encoding="ascii"))) for path in sources()]


def nodes():
    return [(path, node) for path, tree in trees() for node in ast.walk(tree)]


def of_kind(kind):
    return [(path, node) for path, node in nodes() if isinstance(node, kind)]


def parents_in(tree):
    return {child: node for node in ast.walk(tree) for child in ast.iter_child_nodes(node)}


def called(node):
    """The name of the function that a call calls, else None."""
    return node.func.id if isinstance(node, ast.Call) and isinstance(node.func, ast.Name) else None


def is_walked_by(node, parent):
    if isinstance(parent, (ast.For, ast.comprehension)):
        return node is parent.iter
    return False


def bound_names(node):
    """The names that a node binds, wherever it stands."""
    if isinstance(node, (ast.FunctionDef, ast.ClassDef)):
        return [node.name]
    if isinstance(node, ast.Name) and isinstance(node.ctx, ast.Store):
        return [node.id]
    if isinstance(node, ast.arg):
        return [node.arg]
    if isinstance(node, ast.ExceptHandler) and node.name:
        return [node.name]
    if isinstance(node, ast.ImportFrom):
        return [alias.asname or alias.name for alias in node.names]
    return []


class TestForm(unittest.TestCase):
    def told(self, path, node, words):
        return f"{path.name}:{getattr(node, 'lineno', 0)}: {words}"

    def test_files(self):
        self.assertIn(PACKAGE / "__init__.py", sources())
        for path in sources():
            self.assertTrue(path.is_file(), path)
            self.assertRegex(path.name, r"^(__init__|__main__|[a-z][a-z0-9_]*)\.py$")
            self.assertNotRegex(path.name, r"^(test.*|site|conftest|sitecustomize|usercustomize)\.py$")
            self.assertFalse(path.stem in PYTHONS_OWN, path)

    def test_signs_and_lengths(self):
        for path in sources():
            text = path.read_bytes().decode("ascii")
            self.assertRegex(text, r"\A[\n -~]*\Z", path)
            lines = text.split("\n")
            self.assertLessEqual(len(lines), 401, path)
            self.assertLessEqual(max(len(line) for line in lines), 120, path)
            self.assertIsNone(WORDS_OUT.search(text), path)

    def test_statements_and_expressions(self):
        for path, node in nodes():
            if isinstance(node, ast.stmt):
                self.assertIsInstance(node, STATEMENTS, self.told(path, node, "statement"))
            if isinstance(node, ast.expr):
                self.assertIsInstance(node, EXPRESSIONS, self.told(path, node, "expression"))
            if isinstance(node, ast.Constant):
                allowed = (int, str, bool, type(None))
                self.assertIsInstance(node.value, allowed, self.told(path, node, "value"))
                self.assertNotIn("%", str(node.value), self.told(path, node, "percent sign"))
            if isinstance(node, ast.BinOp):
                self.assertNotIsInstance(node.op, (ast.Div, ast.MatMult), self.told(path, node, "division"))
            if isinstance(node, ast.Assign):
                self.assertEqual(len(node.targets), 1, self.told(path, node, "targets"))
            if isinstance(node, (ast.For, ast.While)):
                self.assertEqual(node.orelse, [], self.told(path, node, "else behind a loop"))

    def test_lone_expressions_are_calls(self):
        for path, tree in trees():
            for node in ast.walk(tree):
                if isinstance(node, ast.Expr) and node is not tree.body[0]:
                    self.assertIsInstance(node.value, ast.Call, self.told(path, node, "lone expression"))

    def test_powers_have_a_written_exponent(self):
        for path, node in of_kind(ast.BinOp):
            if isinstance(node.op, ast.Pow):
                self.assertIsInstance(node.right, ast.Constant, self.told(path, node, "power"))
                self.assertIn(node.right.value, range(65), self.told(path, node, "power"))

    def test_comprehensions(self):
        for path, node in of_kind(ast.ListComp):
            self.assertEqual(len(node.generators), 1, self.told(path, node, "for"))
            self.assertLessEqual(len(node.generators[0].ifs), 1, self.told(path, node, "if"))

    def test_functions(self):
        for path, node in of_kind(ast.FunctionDef):
            self.assertLessEqual(node.end_lineno - node.lineno + 1, 40, self.told(path, node, "length"))
            self.assertEqual(node.decorator_list, [], self.told(path, node, "decorator"))
            self.assertEqual(node.args.kwonlyargs + node.args.posonlyargs, [], self.told(path, node, "parameters"))
            self.assertEqual((node.args.vararg, node.args.kwarg), (None, None), self.told(path, node, "star"))

    def test_classes(self):
        for path, tree in trees():
            for node in ast.walk(tree):
                if isinstance(node, ast.ClassDef):
                    self.assertIn(node, tree.body, self.told(path, node, "class within"))
                    self.assertLessEqual(len(node.bases), 1, self.told(path, node, "bases"))
                    self.assertEqual(node.decorator_list + node.keywords, [], self.told(path, node, "decorator"))
                    for part in node.body:
                        self.assertIsInstance(part, (ast.FunctionDef, ast.Pass), self.told(path, part, "class body"))

    def test_names(self):
        for path, node in nodes():
            for name in bound_names(node):
                if name not in SPECIAL:
                    self.assertRegex(name, r"^[A-Za-z][A-Za-z0-9_]*$", self.told(path, node, name))
                self.assertNotIn(name, NAMES_OUT, self.told(path, node, name))

    def test_no_name_of_pythons_own_gets_another_meaning(self):
        for path, tree in trees():
            methods = [part for node in tree.body if isinstance(node, ast.ClassDef) for part in node.body]
            for node in ast.walk(tree):
                if node not in methods:
                    self.assertEqual(PYTHONS_OWN & set(bound_names(node)), set(), self.told(path, node, "name"))

    def test_only_known_names_of_pythons_own_are_read(self):
        for path, tree in trees():
            bound = {name for node in ast.walk(tree) for name in bound_names(node)}
            for node in ast.walk(tree):
                if isinstance(node, ast.Name):
                    self.assertIn(node.id, bound | BUILTINS, self.told(path, node, node.id))

    def test_attributes(self):
        own = {part.name for _, node in of_kind(ast.ClassDef) for part in node.body if isinstance(part, ast.FunctionDef)}
        values = {node.attr for _, node in of_kind(ast.Attribute) if isinstance(node.ctx, ast.Store)}
        self.assertEqual(own & values, set())
        for path, node in of_kind(ast.Attribute):
            self.assertIn(node.attr, own | values | METHODS, self.told(path, node, node.attr))
            self.assertNotIn(node.attr, NAMES_OUT, self.told(path, node, node.attr))

    def test_is_stands_beside_none_and_truths_alone(self):
        for path, node in of_kind(ast.Compare):
            for operator, right in zip(node.ops, node.comparators):
                if isinstance(operator, (ast.Is, ast.IsNot)):
                    self.assertIsInstance(right, ast.Constant, self.told(path, node, "is"))
                    self.assertIn(right.value, (None, True, False), self.told(path, node, "is"))

    def test_imports(self):
        for path, tree in trees():
            for node in ast.walk(tree):
                if isinstance(node, ast.ImportFrom):
                    self.assertIn(node, tree.body, self.told(path, node, "import within"))
                    self.assertEqual(node.level, 0, self.told(path, node, "leading dot"))
                    self.assertRegex(node.module, r"^playboard\.[a-z][a-z0-9_]*$", self.told(path, node, "import"))
                    self.defined_in(path, node)

    def defined_in(self, path, node):
        drawn = ast.parse((PACKAGE / (node.module.split(".")[1] + ".py")).read_text(encoding="ascii"))
        heads = [part for part in drawn.body if isinstance(part, (ast.FunctionDef, ast.ClassDef))]
        names = [part.name for part in heads]
        names += [part.targets[0].id for part in drawn.body if isinstance(part, ast.Assign)]
        for alias in node.names:
            self.assertIn(alias.name, names, self.told(path, node, alias.name))

    def test_no_two_files_draw_from_one_another(self):
        drawn = {path.stem: [] for path in sources()}
        for path, node in of_kind(ast.ImportFrom):
            drawn[path.stem].append(node.module.split(".")[1])
        while drawn:
            free = [name for name in drawn if not any(other in drawn for other in drawn[name])]
            self.assertNotEqual(free, [], drawn)
            for name in free:
                drawn.pop(name)

    def test_sets_are_asked_on_the_spot(self):
        for path, tree in trees():
            parents = parents_in(tree)
            for node in ast.walk(tree):
                if isinstance(node, ast.Set) or called(node) in ("set", "frozenset"):
                    above = parents[node]
                    while isinstance(above, ast.BinOp):
                        above = parents[above]
                    if isinstance(above, ast.Compare):
                        allowed = (ast.In, ast.NotIn, ast.Eq, ast.NotEq)
                        self.assertTrue(all(isinstance(part, allowed) for part in above.ops), self.told(path, node, "set"))
                    else:
                        self.assertIn(called(above), ("sorted", "len"), self.told(path, node, "set"))
                        self.assertEqual(above.keywords, [], self.told(path, node, "set"))

    def test_walks_are_not_kept(self):
        for path, tree in trees():
            parents = parents_in(tree)
            for node in ast.walk(tree):
                by_method = isinstance(node, ast.Call) and isinstance(node.func, ast.Attribute)
                if called(node) in LAZY or (by_method and node.func.attr in LAZY_METHODS):
                    self.assertTrue(self.walked_at_once(node, parents[node]), self.told(path, node, "walk"))

    def walked_at_once(self, node, parent):
        if is_walked_by(node, parent):
            return True
        if called(parent) in LAZY_TAKERS:
            return called(parent) == "zip" or parent.args[0] is node
        if called(parent) in ("min", "max"):
            return parent.args == [node]
        if isinstance(parent, ast.Call) and isinstance(parent.func, ast.Attribute):
            return parent.func.attr == "join" and isinstance(parent.func.value, ast.Constant)
        return False

    def test_what_a_loop_walks_is_not_changed_in_it(self):
        for path, node in of_kind(ast.For):
            walked = {ast.unparse(part) for part in ast.walk(node.iter) if isinstance(part, (ast.Name, ast.Attribute, ast.Subscript))}
            for part in [inner for body in node.body for inner in ast.walk(body)]:
                changed = None
                if isinstance(part, ast.Call) and isinstance(part.func, ast.Attribute) and part.func.attr in CHANGING_METHODS:
                    changed = part.func.value
                elif isinstance(part, ast.Subscript) and isinstance(part.ctx, ast.Store):
                    changed = part.value
                if changed is not None and called(node.iter) not in ("list", "range"):
                    self.assertNotIn(ast.unparse(changed), walked, self.told(path, part, "changed in its loop"))

    def test_methods_are_called_where_they_stand(self):
        own = {part.name for _, node in of_kind(ast.ClassDef) for part in node.body if isinstance(part, ast.FunctionDef)}
        for path, tree in trees():
            parents = parents_in(tree)
            for node in ast.walk(tree):
                if isinstance(node, ast.Attribute) and node.attr in own | METHODS:
                    above = parents[node]
                    right = isinstance(above, ast.Call) and above.func is node
                    self.assertTrue(right, self.told(path, node, node.attr))

    def test_keywords(self):
        for path, node in of_kind(ast.Call):
            if called(node) in BUILTINS or isinstance(node.func, ast.Attribute) and node.func.attr in METHODS:
                names = {keyword.arg for keyword in node.keywords}
                self.assertLessEqual(names, KEYWORDS.get(called(node), set()), self.told(path, node, "keyword"))

    def test_pythons_own_are_called_not_kept(self):
        for path, tree in trees():
            parents = parents_in(tree)
            for node in ast.walk(tree):
                if isinstance(node, ast.Name) and node.id in BUILTINS:
                    above = parents[node]
                    while isinstance(above, ast.Tuple):
                        above = parents[above]
                    at_isinstance = called(above) == "isinstance"
                    allowed = (ast.ClassDef, ast.ExceptHandler, ast.Raise, ast.keyword, ast.Attribute)
                    right = called(above) == node.id or at_isinstance or isinstance(above, allowed)
                    self.assertTrue(right, self.told(path, node, node.id))

    def test_locals_are_called_otherwise_than_imports_and_classes(self):
        for path, tree in trees():
            taken = {name for node in tree.body if isinstance(node, (ast.ImportFrom, ast.ClassDef)) for name in bound_names(node)}
            for top in tree.body:
                parts = [node for node in ast.walk(top) if isinstance(node, (ast.arg, ast.Name, ast.ExceptHandler))]
                names = {name for node in parts for name in bound_names(node)}
                self.assertEqual(names & taken, set(), self.told(path, top, "local"))

    def test_lists_and_dicts_of_a_top_are_only_read(self):
        for path, tree in trees():
            tops = [node for node in tree.body if isinstance(node, ast.Assign)]
            kept = {node.targets[0].id for node in tops if isinstance(node.value, (ast.List, ast.Dict))}
            for node in tops:
                inner = [part for part in ast.walk(node.value) if isinstance(part, (ast.List, ast.Dict))]
                self.assertLessEqual(len(inner), 1, self.told(path, node, "list within"))
                self.assertFalse(any(isinstance(part, ast.Call) for part in ast.walk(node.value)), self.told(path, node, "call"))
            parents = parents_in(tree)
            for node in ast.walk(tree):
                if isinstance(node, ast.Name) and node.id in kept and isinstance(node.ctx, ast.Load):
                    self.assertTrue(self.only_read(node, parents[node]), self.told(path, node, node.id))

    def only_read(self, node, parent):
        if isinstance(parent, ast.Subscript):
            return isinstance(parent.ctx, ast.Load) and parent.value is node
        if isinstance(parent, ast.Attribute):
            return parent.attr in READING_METHODS
        return isinstance(parent, ast.Compare) or is_walked_by(node, parent) or called(parent) in READERS

    def test_errors_are_taken_by_name(self):
        narrow = {"ValueError", "LookupError", "IndexError"}
        for path, node in of_kind(ast.Try):
            self.assertEqual(node.finalbody, [], self.told(path, node, "finally"))
            for handler in node.handlers:
                self.assertIsNotNone(handler.type, self.told(path, handler, "except"))
                names = {part.id for part in ast.walk(handler.type) if isinstance(part, ast.Name)}
                self.assertEqual(names & {"Exception", "TypeError"}, set(), self.told(path, handler, "except"))
                if names & narrow:
                    calls = [part for body in node.body for part in ast.walk(body) if isinstance(part, ast.Call)]
                    allowed = {called(part) for part in calls} - {"int", "str"}
                    self.assertEqual(allowed - {None}, set(), self.told(path, handler, "except"))

    def test_top_of_each_file(self):
        for path, tree in trees():
            self.assertIsNotNone(ast.get_docstring(tree), path)
            names = [name for node in tree.body for name in bound_names(node)]
            names += [node.targets[0].id for node in tree.body if isinstance(node, ast.Assign)]
            self.assertEqual(len(names), len(set(names)), path)
            for node in tree.body[1:]:
                allowed = (ast.ImportFrom, ast.FunctionDef, ast.ClassDef, ast.Assign)
                self.assertIsInstance(node, allowed, self.told(path, node, "top"))


if __name__ == "__main__":
    unittest.main()
