"""The form of the package's own files, as far as it can be asked file by file."""

import ast
import builtins
import pathlib
import re
import unittest

PACKAGE = pathlib.Path(__file__).resolve().parent.parent / "yesorno"
FILES = sorted(path for path in PACKAGE.rglob("*") if "__pycache__" not in path.parts)

OWN_NAMES = set("""len range enumerate zip min max sum abs sorted reversed int str bool list tuple dict set
    frozenset isinstance ord repr any all divmod Exception ValueError TypeError KeyError IndexError
    LookupError ZeroDivisionError ArithmeticError OverflowError RuntimeError NotImplementedError
    StopIteration""".split())
METHODS = set("""append clear copy count endswith extend find get index insert isalnum isalpha isdigit islower
    isspace isupper items join keys ljust lower lstrip partition pop remove replace reverse rfind rjust
    rpartition rsplit rstrip setdefault split splitlines startswith strip update upper values zfill
    bit_length""".split())
LEFT_OUT = set("""register mro elements open input version_info with_traceback add_note format format_map chr
    attrgetter breakpoint builtins compile copyright credits delattr dir eval exec exit gc getattr globals
    hasattr help id importlib license locals methodcaller os quit setattr super type vars sys""".split())
WORDS = """type typing typing_extensions enum Enum IntEnum StrEnum Flag IntFlag Generic Protocol ABC ABCMeta
    namedtuple NamedTuple TypedDict TYPE_CHECKING abstractmethod""".split()
WALKERS = ("list", "tuple", "dict", "sorted", "sum", "any", "all", "enumerate", "zip", "min", "max")
UNDERSCORED = ("__init__", "__eq__", "__repr__", "__str__", "__len__")
NODES = (ast.Module, ast.FunctionDef, ast.ClassDef, ast.ImportFrom, ast.alias, ast.arguments, ast.arg,
         ast.Assign, ast.AugAssign, ast.If, ast.While, ast.For, ast.Return, ast.Break, ast.Continue, ast.Pass,
         ast.Raise, ast.Try, ast.ExceptHandler, ast.Expr, ast.Constant, ast.List, ast.Tuple, ast.Dict,
         ast.BinOp, ast.operator, ast.UnaryOp, ast.unaryop, ast.BoolOp, ast.boolop, ast.Compare, ast.cmpop,
         ast.IfExp, ast.Call, ast.keyword, ast.Attribute, ast.Subscript, ast.Slice, ast.ListComp,
         ast.comprehension, ast.JoinedStr, ast.FormattedValue, ast.Name, ast.expr_context, ast.Lambda)


def tree_of(path):
    return ast.parse(path.read_text(encoding="ascii"))


def nodes(path, kind):
    return [node for node in ast.walk(tree_of(path)) if isinstance(node, kind)]


def own_attributes():
    """Methods, and values given through self, of the package's classes."""
    methods = set()
    fields = set()
    for path in FILES:
        for class_node in nodes(path, ast.ClassDef):
            methods.update(node.name for node in class_node.body if isinstance(node, ast.FunctionDef))
        for node in nodes(path, ast.Attribute):
            if isinstance(node.ctx, ast.Store):
                fields.add(node.attr)
    return methods, fields


def imports():
    return {path.stem: [(node.module, [alias.name for alias in node.names])
                        for node in nodes(path, ast.ImportFrom)] for path in FILES}


def top_names(path):
    found = set()
    for node in tree_of(path).body:
        if isinstance(node, (ast.FunctionDef, ast.ClassDef)):
            found.add(node.name)
        if isinstance(node, ast.Assign):
            found.add(node.targets[0].id)
    return found


class Files(unittest.TestCase):
    def test_files_and_signs(self):
        self.assertIn("__init__.py", [path.name for path in FILES])
        for path in FILES:
            if path.name != "__init__.py":
                self.assertRegex(path.name, "^[a-z][a-z0-9_]*[.]py$")
                self.assertFalse(hasattr(builtins, path.stem), path)
            text = path.read_bytes().decode("ascii")
            self.assertTrue(all(sign == "\n" or " " <= sign <= "~" for sign in text), path)
            self.assertLessEqual(len(text.splitlines()), 400, path)
            for row in text.splitlines():
                self.assertLessEqual(len(row), 120, path)
            for word in WORDS:
                self.assertIsNone(re.search(r"\b" + word + r"\b", text), (path, word))
            self.assertIsNone(re.search("dataclass|overload|contextmanager", text), path)

    def test_imports(self):
        drawn = imports()
        for file, rows in drawn.items():
            for module, taken in rows:
                self.assertRegex(module or "", r"^yesorno[.][a-z0-9_]+$")
                other = PACKAGE / (module.split(".")[1] + ".py")
                self.assertLessEqual(set(taken), top_names(other), file)
        ahead = {file: {module.split(".")[1] for module, taken in rows} for file, rows in drawn.items()}
        while ahead:
            free = [file for file in ahead if not ahead[file] & set(ahead)]
            self.assertTrue(free, "files draw from one another")
            ahead = {file: rows for file, rows in ahead.items() if file not in free}

    def test_statements_and_expressions(self):
        for path in FILES:
            for node in ast.walk(tree_of(path)):
                self.assertIsInstance(node, NODES, path)
                self.assertNotIsInstance(node, (ast.Div, ast.MatMult), path)
                if isinstance(node, (ast.For, ast.While)):
                    self.assertEqual(node.orelse, [], path)
                if isinstance(node, ast.Assign):
                    self.assertEqual(len(node.targets), 1, path)
                if isinstance(node, ast.Try):
                    self.assertEqual(node.finalbody, [], path)
                if isinstance(node, ast.ListComp):
                    self.assertEqual(len(node.generators), 1, path)
                    self.assertLessEqual(len(node.generators[0].ifs), 1, path)
                if isinstance(node, ast.FormattedValue):
                    self.assertIsInstance(node.value, ast.Name, path)
                    self.assertIsNone(node.format_spec, path)
                if isinstance(node, ast.Constant):
                    self.assertNotIsInstance(node.value, (float, complex, bytes), path)
                    self.assertNotIn("%", str(node.value), path)

    def test_functions_and_classes(self):
        for path in FILES:
            for node in nodes(path, ast.FunctionDef):
                self.assertLessEqual(node.end_lineno - node.lineno + 1, 40, node.name)
                self.assertEqual(node.decorator_list, [], node.name)
                arguments = node.args
                self.assertIsNone(arguments.vararg or arguments.kwarg, node.name)
                self.assertEqual(arguments.kwonlyargs + arguments.posonlyargs, [], node.name)
            for node in nodes(path, ast.ClassDef):
                self.assertLessEqual(len(node.bases), 1, node.name)
                for inner in node.body:
                    self.assertIsInstance(inner, (ast.FunctionDef, ast.Pass), node.name)

    def test_names(self):
        methods, values = own_attributes()
        self.assertEqual(methods & values, set())
        for path in FILES:
            for node in nodes(path, ast.Name):
                self.assertFalse(node.id.startswith("_"), (path, node.id))
                self.assertNotIn(node.id, LEFT_OUT, path)
                if hasattr(builtins, node.id):
                    self.assertIn(node.id, OWN_NAMES, path)
                    self.assertIsInstance(node.ctx, ast.Load, (path, node.id))
            for node in nodes(path, ast.arg):
                self.assertFalse(hasattr(builtins, node.arg) or node.arg.startswith("_"), (path, node.arg))
            for node in nodes(path, ast.FunctionDef):
                self.assertTrue(node.name in UNDERSCORED or not node.name.startswith("_"), node.name)
            for node in nodes(path, ast.Attribute):
                self.assertIn(node.attr, METHODS | methods | values, path)
                self.assertNotIn(node.attr, LEFT_OUT, path)

    def test_names_of_imports_and_classes_are_kept_free(self):
        for path in FILES:
            taken = {node.name for node in nodes(path, ast.ClassDef)}
            for node in nodes(path, ast.ImportFrom):
                taken.update(alias.asname or alias.name for alias in node.names)
            bound = [node.id for node in nodes(path, ast.Name) if isinstance(node.ctx, ast.Store)]
            bound += [node.arg for node in nodes(path, ast.arg)]
            bound += [node.name for node in nodes(path, ast.FunctionDef)]
            self.assertEqual(taken & set(bound), set(), path)

    def test_names_of_a_files_top(self):
        for path in FILES:
            bound = []
            for node in tree_of(path).body:
                self.assertIsInstance(node, (ast.Expr, ast.ImportFrom, ast.FunctionDef, ast.ClassDef, ast.Assign))
                if isinstance(node, ast.Expr):
                    self.assertIsInstance(node.value, ast.Constant, path)
                if isinstance(node, (ast.FunctionDef, ast.ClassDef)):
                    bound.append(node.name)
                if isinstance(node, ast.Assign):
                    bound.append(node.targets[0].id)
                    self.assertIsInstance(node.value, (ast.Constant, ast.Tuple, ast.Dict), path)
            self.assertEqual(len(bound), len(set(bound)), path)

    def test_what_is_walked_on_the_spot(self):
        for path in FILES:
            fine = set()
            for node in ast.walk(tree_of(path)):
                walked = []
                if isinstance(node, (ast.For, ast.comprehension)):
                    walked = [node.iter]
                if isinstance(node, ast.Call) and isinstance(node.func, ast.Name) and node.func.id in WALKERS:
                    walked = node.args[:2] if node.func.id == "zip" else node.args[:1]
                fine.update((one.lineno, one.col_offset) for one in walked)
            for node in nodes(path, ast.Call):
                name = getattr(node.func, "id", None) or getattr(node.func, "attr", None)
                if name in ("zip", "enumerate", "reversed", "range", "items", "keys", "values"):
                    self.assertIn((node.lineno, node.col_offset), fine, (path, node.lineno))

    def test_other_forms(self):
        for path in FILES:
            for node in nodes(path, ast.Compare):
                for sign, side in zip(node.ops, node.comparators):
                    if isinstance(sign, (ast.Is, ast.IsNot)):
                        self.assertIsInstance(side, ast.Constant, path)
            for node in nodes(path, ast.BinOp):
                self.assertNotIsInstance(node.op, (ast.Pow, ast.Mod), path)
            for node in nodes(path, ast.Name):
                self.assertNotIn(node.id, ("set", "frozenset"), path)
            for node in nodes(path, (ast.Assign, ast.AugAssign)):
                for target in node.targets if isinstance(node, ast.Assign) else [node.target]:
                    self.assertIsInstance(target, (ast.Name, ast.Attribute, ast.Subscript), path)
            for node in nodes(path, ast.keyword):
                self.assertIn(node.arg, ("key", "default", "start"), path)


if __name__ == "__main__":
    unittest.main()
