"""The rules of the language that can be seen in the package's files one by one."""

import ast
import pathlib
import re
import unittest

PACKAGE = pathlib.Path(__file__).resolve().parent.parent / "twinrounds"
FILES = sorted(PACKAGE.rglob("*.py"))

STATEMENTS = (ast.Assign, ast.AugAssign, ast.If, ast.While, ast.For, ast.Return, ast.Break, ast.Continue, ast.Pass,
              ast.Raise, ast.Try, ast.Expr, ast.FunctionDef, ast.ClassDef, ast.ImportFrom)
EXPRESSIONS = (ast.Constant, ast.Name, ast.List, ast.Tuple, ast.Dict, ast.Set, ast.BinOp, ast.UnaryOp, ast.BoolOp,
               ast.Compare, ast.IfExp, ast.Call, ast.Attribute, ast.Subscript, ast.Slice, ast.ListComp, ast.JoinedStr,
               ast.FormattedValue, ast.Lambda)
OWN_NAMES = """len range enumerate zip min max sum abs sorted reversed int str bool list tuple dict set frozenset
    isinstance ord repr any all divmod Exception ValueError TypeError KeyError IndexError LookupError
    ZeroDivisionError ArithmeticError OverflowError RuntimeError NotImplementedError StopIteration""".split()
OWN_METHODS = """append clear copy count endswith extend find get index insert isalnum isalpha isdigit islower isspace
    isupper items join keys ljust lower lstrip partition pop remove replace reverse rfind rjust rpartition rsplit
    rstrip setdefault split splitlines startswith strip update upper values zfill bit_length""".split()
NO_METHODS = "sort encode format args title add discard".split()
UNDERSCORED = ["__init__", "__eq__", "__repr__", "__str__", "__len__"]
UNUSED = "register mro elements open input version_info with_traceback add_note".split()
UNWRITTEN = re.compile(r"\b(type|typing|typing_extensions|enum|Enum|IntEnum|StrEnum|Flag|IntFlag|Generic|Protocol|ABC|"
                       r"ABCMeta|namedtuple|NamedTuple|TypedDict|TYPE_CHECKING|abstractmethod)\b|"
                       r"dataclass|overload|contextmanager")
WALKED = ["zip", "enumerate", "reversed", "range"]
WALKED_METHODS = ["items", "keys", "values"]
WALKERS = ["list", "tuple", "dict", "sorted", "sum", "any", "all", "enumerate", "zip"]
KEYWORDS = {"sorted": ("key", "reverse"), "min": ("key", "default"), "max": ("key", "default"), "sum": ("start",),
            "enumerate": ("start",), "zip": ("strict",)}


def walked(sort):
    for path in FILES:
        for node in ast.walk(ast.parse(path.read_text())):
            if isinstance(node, sort):
                yield f"{path.name}:{getattr(node, 'lineno', 0)}", node


def name_of(call):
    return call.func.id if isinstance(call.func, ast.Name) else call.func.attr


def called_with_what_is_above(names, methods):
    for path in FILES:
        for above in ast.walk(ast.parse(path.read_text())):
            for node in ast.iter_child_nodes(above):
                if isinstance(node, ast.Call):
                    known = names if isinstance(node.func, ast.Name) else methods
                    if name_of(node) in known:
                        yield f"{path.name}:{node.lineno}", node, above


def is_docstring(statement):
    return isinstance(statement, ast.Expr) and isinstance(statement.value, ast.Constant)


def bound_names(tree):
    for node in ast.walk(tree):
        if isinstance(node, ast.Name) and isinstance(node.ctx, ast.Store):
            yield node.id
        if isinstance(node, ast.arg):
            yield node.arg
        if isinstance(node, (ast.FunctionDef, ast.ClassDef)):
            yield node.name
        if isinstance(node, ast.ImportFrom):
            yield from [alias.asname or alias.name for alias in node.names]
        if isinstance(node, ast.ExceptHandler) and node.name:
            yield node.name


class Form(unittest.TestCase):
    def test_files(self):
        self.assertIn(PACKAGE / "__init__.py", FILES)
        for path in PACKAGE.rglob("*"):
            if "__pycache__" not in path.parts:
                self.assertRegex(path.name, r"^(__init__|__main__|[a-z][a-z0-9_]*)\.py$")

    def test_signs_and_sizes(self):
        for path in FILES:
            text = path.read_text()
            self.assertRegex(text, r"\A[ -~\n]*\Z", path.name)
            self.assertIsNone(UNWRITTEN.search(text), path.name)
            self.assertLessEqual(len(text.splitlines()), 400, path.name)
            self.assertLessEqual(max(map(len, text.splitlines())), 120, path.name)
        for place, node in walked(ast.FunctionDef):
            self.assertLessEqual(node.end_lineno - node.lineno + 1, 40, place)

    def test_imports(self):
        drawn = {path.stem: [] for path in FILES}
        for path in FILES:
            for node in ast.parse(path.read_text()).body:
                if isinstance(node, ast.ImportFrom):
                    self.assertEqual(node.level, 0, path.name)
                    self.assertRegex(node.module, r"^twinrounds\.[a-z_]+$")
                    source = node.module.partition(".")[2]
                    tops = [top for top in ast.parse((PACKAGE / f"{source}.py").read_text()).body
                            if not isinstance(top, ast.ImportFrom)]
                    for alias in node.names:
                        self.assertIn(alias.name, list(bound_names(ast.Module(tops, []))), path.name)
                    drawn[path.stem].append(source)
        left = list(drawn)
        while left:
            free = [name for name in left if not set(drawn[name]) & set(left)]
            self.assertTrue(free, f"files draw from one another: {left}")
            left = [name for name in left if name not in free]

    def test_the_top_of_a_module(self):
        for path in FILES:
            body = ast.parse(path.read_text()).body
            self.assertTrue(is_docstring(body[0]), path.name)
            for node in body[1:]:
                self.assertIsInstance(node, (ast.ImportFrom, ast.FunctionDef, ast.ClassDef, ast.Assign), path.name)
            tops = list(bound_names(ast.Module([node for node in body if isinstance(node, ast.Assign)], [])))
            tops += [node.name for node in body if isinstance(node, (ast.FunctionDef, ast.ClassDef))]
            self.assertEqual(len(tops), len(set(tops)), path.name)

    def test_functions(self):
        for place, node in walked((ast.FunctionDef, ast.Lambda)):
            self.assertEqual((node.args.vararg, node.args.kwarg, node.args.kwonlyargs, node.args.posonlyargs),
                             (None, None, [], []), place)
        for place, node in walked((ast.FunctionDef, ast.ClassDef)):
            self.assertEqual(node.decorator_list, [], place)
        for place, node in walked(ast.arg):
            self.assertIsNone(node.annotation, place)

    def test_classes(self):
        for place, node in walked(ast.ClassDef):
            self.assertLessEqual(len(node.bases), 1, place)
            for part in node.body:
                self.assertIsInstance(part, (ast.FunctionDef, ast.Pass), place)
            names = [part.name for part in node.body if isinstance(part, ast.FunctionDef)]
            self.assertEqual(len(names), len(set(names)), place)

    def test_no_name_is_a_method_and_a_value(self):
        methods = [part.name for place, node in walked(ast.ClassDef) for part in node.body
                   if isinstance(part, ast.FunctionDef)]
        values = [node.attr for place, node in walked(ast.Attribute) if isinstance(node.ctx, ast.Store)]
        self.assertEqual(set(methods) & set(values), set())

    def test_statements_and_expressions(self):
        for place, node in walked(ast.stmt):
            self.assertIsInstance(node, STATEMENTS, place)
        for place, node in walked(ast.expr):
            self.assertIsInstance(node, EXPRESSIONS, place)
        for place, node in walked(ast.Assign):
            self.assertEqual(len(node.targets), 1, place)
            self.assertIsInstance(node.targets[0], (ast.Name, ast.Attribute, ast.Subscript), place)
        for place, node in walked((ast.For, ast.While, ast.Try)):
            self.assertEqual(getattr(node, "finalbody", []), [], place)
            self.assertTrue(isinstance(node, ast.Try) or node.orelse == [], place)
        for place, node in walked(ast.ListComp):
            self.assertEqual(len(node.generators), 1, place)
            self.assertLessEqual(len(node.generators[0].ifs), 1, place)
        for place, node in walked((ast.Div, ast.MatMult, ast.Pow)):
            self.fail(f"{place}: an operator that is not used")
        for place, node in walked(ast.FormattedValue):
            self.assertIsInstance(node.value, ast.Name, place)

    def test_plain_values(self):
        for place, node in walked(ast.Constant):
            self.assertIn(node.value.__class__, (int, str, bool, None.__class__), place)
            if isinstance(node.value, str):
                self.assertNotIn("%", node.value, place)

    def test_is_stands_beside_none_true_and_false(self):
        for place, node in walked(ast.Compare):
            for operator, right in zip(node.ops, node.comparators):
                if isinstance(operator, (ast.Is, ast.IsNot)):
                    self.assertIsInstance(right, ast.Constant, place)
                    self.assertIn(right.value, (None, True, False), place)

    def test_names(self):
        builtin = dir(__builtins__) if not isinstance(__builtins__, dict) else list(__builtins__)
        for path in FILES:
            tree = ast.parse(path.read_text())
            methods = [part.name for node in ast.walk(tree) if isinstance(node, ast.ClassDef) for part in node.body
                       if isinstance(part, ast.FunctionDef)]
            bound = list(bound_names(tree))
            for name in bound:
                self.assertTrue(re.match(r"^[A-Za-z][A-Za-z0-9_]*$", name) or name in UNDERSCORED, (path.name, name))
                self.assertNotIn(name, UNUSED, path.name)
                self.assertTrue(name not in builtin or name in methods, (path.name, name))
            for node in ast.walk(tree):
                if isinstance(node, ast.Name):
                    self.assertTrue(node.id in bound or node.id in OWN_NAMES, (path.name, node.id))

    def test_attributes(self):
        own = [part.name for place, node in walked(ast.ClassDef) for part in node.body
               if isinstance(part, ast.FunctionDef)]
        own += [node.attr for place, node in walked(ast.Attribute) if isinstance(node.ctx, ast.Store)]
        for place, node in walked(ast.Attribute):
            self.assertIn(node.attr, own + OWN_METHODS, place)
            self.assertNotIn(node.attr, NO_METHODS + UNUSED, place)

    def test_walks_stand_where_they_are_walked(self):
        for place, node, above in called_with_what_is_above(WALKED, WALKED_METHODS):
            if isinstance(above, (ast.For, ast.comprehension)):
                self.assertIs(above.iter, node, place)
            else:
                self.assertIsInstance(above, ast.Call, place)
                self.assertIs(above.args[0], node, place)
                self.assertTrue(name_of(above) in WALKERS
                                or name_of(above) in ("min", "max") and len(above.args) == 1
                                or name_of(above) == "join" and isinstance(above.func.value, ast.Constant), place)

    def test_sets_are_not_kept(self):
        for place, node, above in called_with_what_is_above(["set", "frozenset"], []):
            if isinstance(above, ast.Call):
                self.assertIn(name_of(above), ("sorted", "len"), place)
                self.assertEqual(above.keywords, [], place)
            else:
                self.assertIsInstance(above, (ast.Compare, ast.BinOp), place)

    def test_keywords(self):
        for place, node in walked(ast.Call):
            for keyword in node.keywords:
                self.assertIn(keyword.arg, KEYWORDS.get(name_of(node), ()), place)

    def test_no_local_is_called_like_a_class_or_an_import(self):
        for path in FILES:
            body = ast.parse(path.read_text()).body
            taken = [name for node in body if isinstance(node, ast.ImportFrom) for name in bound_names(node)]
            taken += [node.name for node in body if isinstance(node, ast.ClassDef)]
            for node in body:
                if isinstance(node, (ast.FunctionDef, ast.ClassDef)):
                    local = [name for part in node.body for name in bound_names(part)]
                    if isinstance(node, ast.FunctionDef):
                        local += list(bound_names(node.args))
                    self.assertEqual(set(local) & set(taken), set(), (path.name, node.name))


if __name__ == "__main__":
    unittest.main()
