"""Holds the package's files against the rules of LANGUAGE.md that a look at the code can see."""

import ast
import builtins
import pathlib
import re
import unittest

PACKAGE = pathlib.Path(__file__).resolve().parent.parent / "striproam"
FILES = sorted(PACKAGE.glob("*.py"))

OWN_NAMES = set(
    "len range enumerate zip min max sum abs sorted reversed int str bool list tuple dict set frozenset isinstance"
    " ord repr any all divmod Exception ValueError TypeError KeyError IndexError LookupError ZeroDivisionError"
    " ArithmeticError OverflowError RuntimeError NotImplementedError AttributeError StopIteration".split()
)
OWN_METHODS = set(
    "append clear copy count endswith extend find get index insert isalnum isalpha isdigit islower isspace isupper"
    " items join keys ljust lower lstrip partition pop remove replace reverse rfind rjust rpartition rsplit rstrip"
    " setdefault split splitlines startswith strip update upper values zfill bit_length".split()
)
VALUES_FREE = set("count index title find get join lower upper split strip copy add".split())
WALKED = set("zip enumerate reversed range items keys values".split())
TAKERS = set("list tuple dict sorted sum any all enumerate zip".split())
DUNDERS = {"__init__", "__eq__", "__repr__", "__str__", "__len__"}
NAMES_OUT = set(
    "register mro elements open input version_info with_traceback add_note attrgetter breakpoint builtins compile"
    " copyright credits delattr dir eval exec exit gc getattr globals hasattr help id importlib license locals"
    " methodcaller os quit setattr super sys vars".split()
)
WORDS_OUT = re.compile(
    r"\b(type|typing|typing_extensions|enum|Enum|IntEnum|StrEnum|Flag|IntFlag|Generic|Protocol|ABC|ABCMeta"
    r"|namedtuple|NamedTuple|TypedDict|TYPE_CHECKING|abstractmethod)\b|dataclass|overload|contextmanager"
)
FILE_NAMES_OUT = re.compile(r"test|tests|testing|test_.*|site|conftest|sitecustomize|usercustomize")
NODES = (
    ast.Module, ast.FunctionDef, ast.ClassDef, ast.Return, ast.Assign, ast.AugAssign, ast.For, ast.While, ast.If,
    ast.Raise, ast.Try, ast.ExceptHandler, ast.ImportFrom, ast.alias, ast.Expr, ast.Pass, ast.Break, ast.Continue,
    ast.BoolOp, ast.BinOp, ast.UnaryOp, ast.Lambda, ast.IfExp, ast.Dict, ast.Set, ast.ListComp, ast.comprehension,
    ast.Compare, ast.Call, ast.keyword, ast.JoinedStr, ast.FormattedValue, ast.Constant, ast.Attribute,
    ast.Subscript, ast.Name, ast.List, ast.Tuple, ast.Slice, ast.arguments, ast.arg, ast.expr_context,
    ast.boolop, ast.operator, ast.unaryop, ast.cmpop,
)
TOP_NODES = (ast.Expr, ast.ImportFrom, ast.FunctionDef, ast.ClassDef, ast.Assign)


def parsed(path):
    return ast.parse(path.read_text(encoding="utf-8"))


def bound_names(node):
    if isinstance(node, (ast.FunctionDef, ast.ClassDef)):
        return [node.name]
    if isinstance(node, ast.Assign):
        return [target.id for target in node.targets]
    if isinstance(node, ast.ImportFrom):
        return [alias.name for alias in node.names]
    return []


def called(node):
    """The name or method that a call calls."""
    return getattr(node.func, "id", getattr(node.func, "attr", None))


def own_methods():
    return {
        method.name
        for path in FILES
        for node in parsed(path).body if isinstance(node, ast.ClassDef)
        for method in node.body if isinstance(method, ast.FunctionDef)
    }


class Files(unittest.TestCase):
    def test_the_package_holds_python_files_alone(self):
        found = [path for path in PACKAGE.iterdir() if path.name != "__pycache__"]
        self.assertEqual(sorted(found), FILES)
        self.assertIn(PACKAGE / "__init__.py", FILES)
        for path in FILES:
            self.assertRegex(path.stem, r"\A[a-z0-9_]+\Z")
            self.assertIsNone(FILE_NAMES_OUT.fullmatch(path.stem))
            self.assertNotIn(path.stem, dir(builtins))

    def test_signs_and_sizes(self):
        for path in FILES:
            text = path.read_text(encoding="utf-8")
            self.assertRegex(text, r"\A[ -~\n]*\Z", path)
            self.assertIsNone(WORDS_OUT.search(text), path)
            rows = text.split("\n")
            self.assertLessEqual(len(rows), 400, path)
            self.assertLessEqual(max(len(row) for row in rows), 120, path)

    def test_functions_are_short(self):
        for path in FILES:
            for node in ast.walk(parsed(path)):
                if isinstance(node, ast.FunctionDef):
                    self.assertLessEqual(node.end_lineno - node.lineno + 1, 40, (path, node.name))


class Imports(unittest.TestCase):
    def draws(self, path):
        return [node for node in ast.walk(parsed(path)) if isinstance(node, ast.ImportFrom)]

    def test_imports_stand_at_the_top_of_a_file(self):
        for path in FILES:
            at_top = [node for node in parsed(path).body if isinstance(node, ast.ImportFrom)]
            self.assertEqual(len(self.draws(path)), len(at_top), path)

    def test_names_come_from_the_file_that_defines_them(self):
        for path in FILES:
            for node in self.draws(path):
                self.assertEqual(node.level, 0)
                self.assertRegex(node.module, r"\Astriproam\.[a-z_]+\Z")
                source = PACKAGE / (node.module.split(".")[1] + ".py")
                defined = [
                    name for top in parsed(source).body if not isinstance(top, ast.ImportFrom)
                    for name in bound_names(top)
                ]
                for alias in node.names:
                    self.assertIn(alias.name, defined, path)
                    self.assertIsNone(alias.asname)

    def test_no_two_files_draw_from_one_another(self):
        open_files = {path.stem: {node.module.split(".")[1] for node in self.draws(path)} for path in FILES}
        while open_files:
            free = [stem for stem, drawn in open_files.items() if not drawn & set(open_files)]
            self.assertTrue(free, open_files)
            for stem in free:
                open_files.pop(stem)

    def test_the_package_itself_binds_nothing(self):
        self.assertEqual([bound_names(node) for node in parsed(PACKAGE / "__init__.py").body], [[]])


class Code(unittest.TestCase):
    def each_node(self):
        for path in FILES:
            for node in ast.walk(parsed(path)):
                yield f"{path.name}:{getattr(node, 'lineno', 0)}", node

    def test_only_known_forms(self):
        for where, node in self.each_node():
            self.assertIsInstance(node, NODES, where)
            self.assertNotIsInstance(node, (ast.Div, ast.MatMult), where)

    def test_the_top_of_each_file(self):
        for path in FILES:
            body = parsed(path).body
            names = [name for node in body for name in bound_names(node)]
            self.assertEqual(len(names), len(set(names)), path)
            for at, node in enumerate(body):
                self.assertIsInstance(node, TOP_NODES, path)
                if isinstance(node, ast.Expr):
                    self.assertEqual(at, 0, path)
                    self.assertIsInstance(node.value.value, str, path)

    def test_statements(self):
        for where, node in self.each_node():
            if isinstance(node, ast.Assign):
                self.assertEqual(len(node.targets), 1, where)
            if isinstance(node, (ast.For, ast.While)):
                self.assertEqual(node.orelse, [], where)
            if isinstance(node, ast.Try):
                self.assertEqual(node.finalbody, [], where)
            if isinstance(node, ast.Expr):
                self.assertIsInstance(node.value, (ast.Call, ast.Constant), where)
            if isinstance(node, ast.ListComp):
                self.assertEqual(len(node.generators), 1, where)
                self.assertLessEqual(len(node.generators[0].ifs), 1, where)

    def test_functions_and_classes_are_plain(self):
        for where, node in self.each_node():
            if isinstance(node, (ast.FunctionDef, ast.ClassDef)):
                self.assertEqual(node.decorator_list, [], where)
            if isinstance(node, ast.arguments):
                self.assertEqual((node.vararg, node.kwarg, node.kwonlyargs, node.posonlyargs), (None, None, [], []))
            if isinstance(node, ast.ClassDef):
                self.assertLessEqual(len(node.bases), 1, where)
                for part in node.body:
                    self.assertIsInstance(part, (ast.FunctionDef, ast.Pass), where)

    def test_values(self):
        for where, node in self.each_node():
            if isinstance(node, ast.Constant):
                self.assertIsInstance(node.value, (int, str, type(None)), where)
                if isinstance(node.value, str):
                    self.assertNotIn("%", node.value, where)
            if isinstance(node, ast.Compare):
                for operator, right in zip(node.ops, node.comparators):
                    if isinstance(operator, (ast.Is, ast.IsNot)):
                        self.assertIsInstance(right, ast.Constant, where)
                        self.assertIn(right.value, (None, True, False), where)

    def test_names(self):
        for where, node in self.each_node():
            if isinstance(node, ast.Name):
                self.check_name(node.id, where)
                if isinstance(node.ctx, ast.Store):
                    self.assertNotIn(node.id, dir(builtins), where)
                elif node.id in dir(builtins):
                    self.assertIn(node.id, OWN_NAMES, where)
            if isinstance(node, ast.arg):
                self.check_name(node.arg, where)
                self.assertNotIn(node.arg, dir(builtins), where)
            if isinstance(node, (ast.FunctionDef, ast.ClassDef)) and node.name not in DUNDERS:
                self.check_name(node.name, where)
                self.assertNotIn(node.name, dir(builtins), where)

    def check_name(self, name, where):
        self.assertRegex(name, r"\A[A-Za-z][A-Za-z0-9_]*\Z", where)
        self.assertNotIn(name, NAMES_OUT, where)

    def test_parameters_and_locals_are_not_called_like_a_class_or_an_import(self):
        for path in FILES:
            taken = {
                name for node in parsed(path).body if isinstance(node, (ast.ClassDef, ast.ImportFrom))
                for name in bound_names(node)
            }
            for node in ast.walk(parsed(path)):
                if isinstance(node, ast.arg):
                    self.assertNotIn(node.arg, taken, path)
                if isinstance(node, ast.Name) and isinstance(node.ctx, ast.Store):
                    self.assertNotIn(node.id, taken, path)

    def test_values_of_objects(self):
        own = [*dir(""), *dir(0), *dir([]), *dir({}), *dir(set()), *dir(b"")]
        values = {
            node.attr for where, node in self.each_node()
            if isinstance(node, ast.Attribute) and isinstance(node.ctx, ast.Store)
        }
        self.assertEqual(values & own_methods(), set())
        self.assertEqual((values - VALUES_FREE) & {*own, "args"}, set())
        self.assertEqual(own_methods() & (NAMES_OUT | {*own} - OWN_METHODS - DUNDERS - {"add", "discard"}), set())

    def test_no_annotations(self):
        for where, node in self.each_node():
            self.assertIsNone(getattr(node, "annotation", None), where)
            self.assertIsNone(getattr(node, "returns", None), where)

    def test_walked_at_once(self):
        for path in FILES:
            tree = parsed(path)
            on_the_spot = {id(node.iter) for node in ast.walk(tree) if isinstance(node, (ast.For, ast.comprehension))}
            for node in ast.walk(tree):
                if isinstance(node, ast.Call) and called(node) in TAKERS:
                    on_the_spot.update(id(part) for part in node.args[:1])
            for node in ast.walk(tree):
                if isinstance(node, ast.Call) and called(node) in WALKED:
                    self.assertIn(id(node), on_the_spot, f"{path.name}:{node.lineno}")

    def test_no_set_is_kept(self):
        for where, node in self.each_node():
            self.assertNotIsInstance(node, ast.Set, where)
            if isinstance(node, ast.Name):
                self.assertNotIn(node.id, ("set", "frozenset"), where)

    def test_methods(self):
        known = OWN_METHODS | own_methods() | {"__init__"}
        for where, node in self.each_node():
            if isinstance(node, ast.Call) and isinstance(node.func, ast.Attribute):
                self.assertIn(node.func.attr, known, where)

    def test_no_two_lambdas_alike_on_one_line(self):
        places = [
            (where, tuple(part.arg for part in node.args.args))
            for where, node in self.each_node() if isinstance(node, ast.Lambda)
        ]
        self.assertEqual(len(places), len(set(places)))

    def test_powers_have_a_written_exponent(self):
        for where, node in self.each_node():
            if isinstance(node, ast.BinOp) and isinstance(node.op, ast.Pow):
                self.assertIsInstance(node.right, ast.Constant, where)

    def test_errors_taken_are_the_programs_own_or_free(self):
        own = {node.name for node in parsed(PACKAGE / "errors.py").body if isinstance(node, ast.ClassDef)}
        for where, node in self.each_node():
            if isinstance(node, ast.ExceptHandler):
                self.assertIn(node.type.id, own | {"KeyError", "ZeroDivisionError", "StopIteration"}, where)


if __name__ == "__main__":
    unittest.main()
