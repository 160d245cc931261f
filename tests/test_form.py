"""Holds the package's files against the rules of LANGUAGE.md, as far as a short test can see them."""

import ast
import builtins
import pathlib
import re
import unittest

PACKAGE = pathlib.Path(__file__).resolve().parent.parent / "locklevels"

STATEMENTS = (
    ast.FunctionDef, ast.ClassDef, ast.Return, ast.Assign, ast.AugAssign, ast.If, ast.While, ast.For,
    ast.Break, ast.Continue, ast.Pass, ast.Raise, ast.Try, ast.ImportFrom, ast.Expr)
EXPRESSIONS = (
    ast.BoolOp, ast.BinOp, ast.UnaryOp, ast.Lambda, ast.IfExp, ast.Dict, ast.ListComp, ast.Compare, ast.Call,
    ast.Constant, ast.Attribute, ast.Subscript, ast.Name, ast.List, ast.Tuple, ast.Slice, ast.JoinedStr,
    ast.FormattedValue)
BUILT_IN = (
    "len range enumerate zip min max sum abs sorted reversed int str bool list tuple dict set frozenset "
    "isinstance ord repr any all divmod Exception ValueError KeyError IndexError LookupError "
    "ZeroDivisionError ArithmeticError OverflowError RuntimeError NotImplementedError StopIteration").split()
METHODS = (
    "append clear copy count endswith extend find get index insert isalnum isalpha isdigit islower isspace "
    "isupper items join keys ljust lower lstrip partition pop remove replace reverse rfind rjust rpartition "
    "rsplit rstrip setdefault split splitlines startswith strip update upper values zfill bit_length").split()
NOT_AS_NAMES = (
    "register mro elements open input version_info with_traceback add_note attrgetter breakpoint builtins "
    "compile copyright credits delattr dir eval exec exit gc getattr globals hasattr help id importlib "
    "license locals methodcaller os quit setattr super type vars sys").split()
WORDS = (
    "type typing typing_extensions enum Enum IntEnum StrEnum Flag IntFlag Generic Protocol ABC ABCMeta "
    "namedtuple NamedTuple TypedDict TYPE_CHECKING abstractmethod").split()
PLAIN_NAME = re.compile(r"[A-Za-z][A-Za-z0-9_]*\Z")
# L26: an object's own values and methods are called like none of these have.
OWN_OF_PYTHON = {name for kind in (str, int, list, dict, set, bytes) for name in dir(kind)}


def files():
    return sorted(path for path in PACKAGE.rglob("*") if path.is_file() and "__pycache__" not in path.parts)


# Parsed once, so that a node found twice is the same.
TREES = [(path.name, ast.parse(path.read_text())) for path in files()]


def nodes(kind):
    return [(name, node) for name, tree in TREES for node in ast.walk(tree) if isinstance(node, kind)]


def bound_names(tree):
    """Every name that a file gives a meaning to."""
    found = []
    for node in ast.walk(tree):
        if isinstance(node, (ast.FunctionDef, ast.ClassDef)):
            found.append(node.name)
        elif isinstance(node, ast.arg):
            found.append(node.arg)
        elif isinstance(node, ast.Name) and isinstance(node.ctx, ast.Store):
            found.append(node.id)
        elif isinstance(node, ast.Attribute) and isinstance(node.ctx, ast.Store):
            found.append(node.attr)
    return found


class Files(unittest.TestCase):
    def test_names_signs_and_sizes(self):
        self.assertIn("__init__.py", [path.name for path in files()])
        for path in files():
            self.assertRegex(path.name, r"\A(__init__|[a-z][a-z0-9_]*)\.py\Z")
            text = path.read_text()
            self.assertRegex(text, r"\A[ -~\n]*\Z", path.name)
            rows = text.splitlines()
            self.assertLessEqual(len(rows), 400, path.name)
            self.assertLessEqual(max(len(row) for row in rows), 120, path.name)

    def test_words_that_stand_nowhere(self):
        for path in files():
            text = path.read_text()
            self.assertEqual([word for word in WORDS if re.search(rf"\b{word}\b", text)], [], path.name)
            self.assertNotRegex(text, "dataclass|overload|contextmanager", path.name)

    def test_imports(self):
        drawn = {}
        for name, tree in TREES:
            drawn[name] = []
            for node in ast.walk(tree):
                self.assertNotIsInstance(node, ast.Import, name)
                if isinstance(node, ast.ImportFrom):
                    self.assertIn(node, tree.body)
                    self.assertEqual(node.level, 0)
                    self.assertRegex(node.module, r"\Alocklevels\.[a-z_]+\Z")
                    self.assertNotIn("*", [alias.name for alias in node.names])
                    drawn[name].append(node.module.split(".")[1] + ".py")
        self.assertEqual(drawn["__init__.py"], [])
        # What draws from nothing that is left is taken away: a circle would stay.
        while drawn:
            free = [name for name in drawn if not set(drawn[name]) & set(drawn)]
            self.assertNotEqual(free, [], drawn)
            drawn = {name: drawn[name] for name in drawn if name not in free}


class Code(unittest.TestCase):
    def test_statements_and_expressions(self):
        for name, node in nodes((ast.stmt, ast.expr)):
            where = f"{name}:{node.lineno} {ast.dump(node)[:80]}"
            self.assertIsInstance(node, STATEMENTS + EXPRESSIONS, where)
            if isinstance(node, ast.Assign):
                self.assertEqual(len(node.targets), 1, where)
                self.assertIsInstance(node.targets[0], (ast.Name, ast.Attribute, ast.Subscript), where)
            if isinstance(node, (ast.For, ast.While)):
                self.assertEqual(node.orelse, [], where)
            if isinstance(node, ast.ListComp):
                self.assertEqual(len(node.generators), 1, where)
                self.assertLessEqual(len(node.generators[0].ifs), 1, where)
            if isinstance(node, ast.Constant):
                self.assertIn(node.value.__class__, (int, str, bool, type(None)), where)
            if isinstance(node, ast.Compare) and any(isinstance(op, (ast.Is, ast.IsNot)) for op in node.ops):
                self.assertIsInstance(node.comparators[0], ast.Constant, where)
        self.assertEqual(nodes((ast.Div, ast.Pow, ast.MatMult)), [])

    def test_texts_by_themselves_stand_at_a_files_top_alone(self):
        for name, tree in TREES:
            self.assertIsNotNone(ast.get_docstring(tree), name)
            for node in ast.walk(tree):
                if isinstance(node, ast.Expr) and node is not tree.body[0]:
                    self.assertIsInstance(node.value, ast.Call, f"{name}:{node.lineno}")

    def test_functions_and_classes(self):
        for name, node in nodes(ast.FunctionDef):
            where = f"{name}:{node.lineno}"
            self.assertLessEqual(node.end_lineno - node.lineno + 1, 40, where)
            self.assertEqual(node.decorator_list, [], where)
            self.assertEqual((node.args.vararg, node.args.kwarg, node.args.kwonlyargs), (None, None, []), where)
        for name, node in nodes(ast.ClassDef):
            where = f"{name}:{node.lineno}"
            self.assertEqual(node.decorator_list, [], where)
            self.assertTrue(all(isinstance(part, ast.FunctionDef) for part in node.body), where)

    def test_top_of_each_file(self):
        allowed = (ast.Expr, ast.ImportFrom, ast.FunctionDef, ast.ClassDef, ast.Assign)
        for name, tree in TREES:
            for node in tree.body:
                self.assertIsInstance(node, allowed, f"{name}:{node.lineno}")
            top = [node.targets[0].id for node in tree.body if isinstance(node, ast.Assign)]
            top += [node.name for node in tree.body if isinstance(node, (ast.FunctionDef, ast.ClassDef))]
            self.assertEqual(len(top), len(set(top)), name)

    def test_names(self):
        for name, tree in TREES:
            for bound in bound_names(tree):
                if bound in ("__init__", "__eq__", "__repr__", "__str__", "__len__"):
                    continue
                self.assertRegex(bound, PLAIN_NAME, name)
                self.assertNotIn(bound, NOT_AS_NAMES, name)
                self.assertFalse(hasattr(builtins, bound), f"{name}: {bound}")
            for node in ast.walk(tree):
                if isinstance(node, ast.Name) and hasattr(builtins, node.id):
                    self.assertIn(node.id, BUILT_IN, f"{name}:{node.lineno}")

    def test_methods_and_values(self):
        methods = set()
        for name, node in nodes(ast.ClassDef):
            methods |= {part.name for part in node.body}
        values = {node.attr for name, node in nodes(ast.Attribute) if isinstance(node.ctx, ast.Store)}
        self.assertEqual(methods & values, set())
        self.assertEqual((methods | values) & OWN_OF_PYTHON - {"__init__"}, set())
        called = [node.func for name, node in nodes(ast.Call) if isinstance(node.func, ast.Attribute)]
        for name, node in nodes(ast.Attribute):
            if node in called:
                self.assertIn(node.attr, methods | set(METHODS), f"{name}:{node.lineno}")
            else:
                # A method is called where it stands, so what isn't called is a value.
                self.assertIn(node.attr, values, f"{name}:{node.lineno}")


if __name__ == "__main__":
    unittest.main()
