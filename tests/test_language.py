"""The rules of the language that a look at the package's files can tell; the others are for the reader."""

import ast
import builtins
import pathlib
import re
import unittest

PACKAGE = pathlib.Path(__file__).resolve().parent.parent / "shadowpost"

STATEMENTS = (
    ast.FunctionDef, ast.ClassDef, ast.Return, ast.Assign, ast.AugAssign, ast.For, ast.While, ast.If, ast.Raise,
    ast.Try, ast.ImportFrom, ast.Expr, ast.Pass, ast.Break, ast.Continue,
)
EXPRESSIONS = (
    ast.BoolOp, ast.BinOp, ast.UnaryOp, ast.Lambda, ast.IfExp, ast.Dict, ast.ListComp, ast.Compare, ast.Call,
    ast.JoinedStr, ast.FormattedValue, ast.Constant, ast.Attribute, ast.Subscript, ast.Name, ast.List, ast.Tuple,
    ast.Slice, ast.Set,
)
BUILT_IN = set(
    "len range enumerate zip min max sum abs sorted reversed int str bool list tuple dict set frozenset isinstance"
    " ord repr any all divmod Exception ValueError TypeError KeyError IndexError LookupError ZeroDivisionError"
    " ArithmeticError OverflowError RuntimeError NotImplementedError StopIteration".split()
)
PYTHONS_METHODS = set(
    "append clear copy count endswith extend find get index insert isalnum isalpha isdigit islower isspace isupper"
    " items join keys ljust lower lstrip partition pop remove replace reverse rfind rjust rpartition rsplit rstrip"
    " setdefault split splitlines startswith strip update upper values zfill bit_length".split()
)
PYTHONS_OWN = set()
for kind in (str, int, list, tuple, dict, set, frozenset, bytes):
    PYTHONS_OWN |= {name for name in dir(kind) if not name.startswith("_")}
# A value of an object may be called so all the same, and a method like those of PYTHONS_METHODS.
VALUES_FREE = set("count index title find get join lower upper split strip copy add".split())
METHODS_FREE = PYTHONS_METHODS | {"add", "discard"}
NAMES_OUT = set(
    "register mro elements open input version_info with_traceback add_note attrgetter breakpoint builtins compile"
    " copyright credits delattr dir eval exec exit gc getattr globals hasattr help id importlib license locals"
    " methodcaller os quit setattr super type vars sys chr __name__".split()
)
ATTRIBUTES_OUT = set(
    "register mro elements open input version_info with_traceback add_note args encode format format_map".split()
)
ERRORS_TAKEN = {"KeyError", "ZeroDivisionError", "StopIteration"}
WALKED = {"zip", "enumerate", "reversed", "range"}
WALKED_METHODS = {"items", "keys", "values"}
WALKERS = {"list", "tuple", "dict", "sorted", "sum", "any", "all", "enumerate", "zip", "min", "max"}
KEYWORDS = {
    "sorted": {"key", "reverse"}, "min": {"key", "default"}, "max": {"key", "default"},
    "sum": {"start"}, "enumerate": {"start"}, "zip": {"strict"},
}
AT_THE_TOP = (ast.ImportFrom, ast.FunctionDef, ast.ClassDef, ast.Assign)
PLAIN_VALUES = (ast.Constant, ast.List, ast.Tuple, ast.Dict, ast.UnaryOp, ast.USub, ast.Name, ast.Load)
UNDERSCORED = ("__init__", "__eq__", "__repr__", "__str__", "__len__")
WORDS_OUT = re.compile(
    r"\b(type|typing|typing_extensions|enum|Enum|IntEnum|StrEnum|Flag|IntFlag|Generic|Protocol|ABC|ABCMeta"
    r"|namedtuple|NamedTuple|TypedDict|TYPE_CHECKING|abstractmethod)\b|dataclass|overload|contextmanager"
)
FILE_NAME = re.compile(r"[a-z][a-z0-9_]*\.py|__init__\.py")
PLAIN_NAME = re.compile(r"[A-Za-z][A-Za-z0-9_]*")


def package_files():
    return [path for path in sorted(PACKAGE.rglob("*")) if "__pycache__" not in path.parts]


def bound_names(tree):
    names = []
    for node in ast.walk(tree):
        if isinstance(node, (ast.FunctionDef, ast.ClassDef)):
            names.append(node.name)
        elif isinstance(node, ast.Name) and isinstance(node.ctx, ast.Store):
            names.append(node.id)
        elif isinstance(node, ast.arg):
            names.append(node.arg)
        elif isinstance(node, ast.alias):
            names.append(node.name)
    return names


def top_names(part):
    if isinstance(part, ast.ImportFrom):
        return [alias.name for alias in part.names]
    if isinstance(part, (ast.FunctionDef, ast.ClassDef)):
        return [part.name]
    return bound_names(part)


def called_name(node):
    return node.func.id if isinstance(node, ast.Call) and isinstance(node.func, ast.Name) else None


def local_names(function):
    names = [each.arg for each in function.args.args]
    for node in ast.walk(function):
        if isinstance(node, ast.Name) and isinstance(node.ctx, ast.Store):
            names.append(node.id)
        elif isinstance(node, ast.ExceptHandler) and node.name:
            names.append(node.name)
    return names


def object_values(trees):
    nodes = [node for tree in trees for node in ast.walk(tree)]
    return {node.attr for node in nodes if isinstance(node, ast.Attribute) and isinstance(node.ctx, ast.Store)}


def package_classes(trees):
    return {node.name for tree in trees for node in ast.walk(tree) if isinstance(node, ast.ClassDef)}


def is_walked(node):
    method = isinstance(node, ast.Call) and isinstance(node.func, ast.Attribute) and node.func.attr in WALKED_METHODS
    return method or called_name(node) in WALKED


def walked_on_the_spot(tree):
    spots = []
    for node in ast.walk(tree):
        if isinstance(node, (ast.For, ast.comprehension)):
            spots.append(node.iter)
        elif called_name(node) in WALKERS:
            spots.extend(node.args if called_name(node) == "zip" else node.args[:1])
        elif isinstance(node, ast.Call) and isinstance(node.func, ast.Attribute) and node.func.attr == "join":
            spots.extend(node.args)
    return spots


def package_methods(trees):
    classes = [node for tree in trees for node in ast.walk(tree) if isinstance(node, ast.ClassDef)]
    return {node.name for each in classes for node in each.body if isinstance(node, ast.FunctionDef)}


class Language(unittest.TestCase):
    def setUp(self):
        self.texts = {path.name: path.read_bytes().decode("utf-8") for path in package_files()}
        self.trees = {name: ast.parse(text) for name, text in self.texts.items()}

    def nodes(self, *kinds):
        for name, tree in self.trees.items():
            for node in ast.walk(tree):
                if isinstance(node, kinds):
                    yield f"{name}:{getattr(node, 'lineno', 0)}", node

    def test_files(self):
        self.assertIn("__init__.py", self.texts)
        for name in self.texts:
            self.assertRegex(name, FILE_NAME)

    def test_signs_and_sizes(self):
        for name, text in self.texts.items():
            lines = text.split("\n")
            self.assertLessEqual(len(lines), 401, name)
            for number, line in enumerate(lines, start=1):
                self.assertLessEqual(len(line), 120, f"{name}:{number}")
                self.assertTrue(all(" " <= sign <= "~" for sign in line), f"{name}:{number}")
                self.assertIsNone(WORDS_OUT.search(line), f"{name}:{number}")

    def test_functions(self):
        for place, node in self.nodes(ast.FunctionDef, ast.Lambda):
            self.assertLessEqual(node.end_lineno - node.lineno + 1, 40, place)
            given = node.args
            self.assertFalse(given.vararg or given.kwarg or given.kwonlyargs or given.posonlyargs, place)
            self.assertFalse(getattr(node, "decorator_list", []), place)

    def test_classes(self):
        for place, node in self.nodes(ast.ClassDef):
            self.assertLessEqual(len(node.bases), 1, place)
            self.assertFalse(node.keywords or node.decorator_list, place)
            for part in node.body:
                self.assertIsInstance(part, (ast.FunctionDef, ast.Pass), place)

    def test_statements_and_expressions(self):
        for place, node in self.nodes(ast.stmt):
            self.assertIsInstance(node, STATEMENTS, place)
        for place, node in self.nodes(ast.expr):
            self.assertIsInstance(node, EXPRESSIONS, place)
        for place, node in self.nodes(ast.Assign):
            self.assertEqual(len(node.targets), 1, place)
        for place, node in self.nodes(ast.For, ast.While):
            self.assertFalse(node.orelse, place)
        for place, node in self.nodes(ast.ListComp):
            self.assertEqual(len(node.generators), 1, place)
            self.assertLessEqual(len(node.generators[0].ifs), 1, place)
        for place, node in self.nodes(ast.BinOp, ast.AugAssign):
            self.assertNotIsInstance(node.op, (ast.Div, ast.MatMult), place)
        for place, node in self.nodes(ast.Constant):
            self.assertNotIsInstance(node.value, (float, complex, bytes), place)
            self.assertFalse(isinstance(node.value, str) and "%" in node.value, place)

    def test_is_stands_beside_none_true_and_false(self):
        for place, node in self.nodes(ast.Compare):
            for sign, right in zip(node.ops, node.comparators):
                if isinstance(sign, (ast.Is, ast.IsNot)):
                    self.assertIn(getattr(right, "value", "none of them"), (None, True, False), place)

    def test_powers_are_written(self):
        for place, node in self.nodes(ast.BinOp, ast.AugAssign):
            if isinstance(node.op, ast.Pow):
                raised = node.right if isinstance(node, ast.BinOp) else node.value
                self.assertIsInstance(raised, ast.Constant, place)
                self.assertIn(raised.value, range(65), place)

    def test_names(self):
        for name, tree in self.trees.items():
            bound = bound_names(tree)
            for each in bound:
                if each not in UNDERSCORED:
                    self.assertRegex(each, "^" + PLAIN_NAME.pattern + "$", name)
                    self.assertNotIn(each, dir(builtins), name)
            for node in ast.walk(tree):
                if isinstance(node, ast.Name) and isinstance(node.ctx, ast.Load):
                    self.assertTrue(node.id in bound or node.id in BUILT_IN, f"{name}:{node.lineno} {node.id}")

    def test_methods(self):
        known = PYTHONS_METHODS | package_methods(self.trees.values()) | {"__init__"}
        for place, node in self.nodes(ast.Call):
            if isinstance(node.func, ast.Attribute):
                self.assertIn(node.func.attr, known, place)

    def test_imports_come_from_the_file_that_defines_the_name(self):
        for place, node in self.nodes(ast.ImportFrom):
            self.assertEqual(node.level, 0, place)
            package, dot, module = node.module.partition(".")
            self.assertEqual(package, "shadowpost", place)
            self.assertIn(module + ".py", self.trees, place)
            top = []
            for part in self.trees[module + ".py"].body:
                if not isinstance(part, ast.ImportFrom):
                    top.extend(bound_names(part))
            for alias in node.names:
                self.assertIsNone(alias.asname, place)
                self.assertIn(alias.name, top, place)

    def test_the_top_of_a_module(self):
        for name, tree in self.trees.items():
            bound = [each for part in tree.body for each in top_names(part)]
            self.assertEqual(len(bound), len(set(bound)), name)
            for number, part in enumerate(tree.body):
                docstring = number == 0 and isinstance(part, ast.Expr) and isinstance(part.value, ast.Constant)
                self.assertTrue(docstring or isinstance(part, AT_THE_TOP), f"{name}:{part.lineno}")
                if isinstance(part, ast.Assign):
                    self.assertIsInstance(part.targets[0], ast.Name, name)
                    for node in ast.walk(part.value):
                        self.assertIsInstance(node, PLAIN_VALUES, f"{name}:{part.lineno}")

    def test_a_statement_by_itself_is_a_call(self):
        for place, node in self.nodes(ast.FunctionDef, ast.ClassDef):
            for part in ast.walk(node):
                if isinstance(part, ast.Expr):
                    self.assertIsInstance(part.value, ast.Call, place)

    def test_assignments_have_one_plain_target(self):
        for place, node in self.nodes(ast.Assign):
            self.assertNotIsInstance(node.targets[0], (ast.Tuple, ast.List), place)

    def test_locals_are_not_called_like_classes_and_imports(self):
        for name, tree in self.trees.items():
            out = package_classes([tree])
            for node in tree.body:
                if isinstance(node, ast.ImportFrom):
                    out |= {alias.name for alias in node.names}
            for node in ast.walk(tree):
                if isinstance(node, (ast.FunctionDef, ast.Lambda)):
                    self.assertFalse(out & set(local_names(node)), f"{name}:{node.lineno}")

    def test_names_that_are_not_used(self):
        for place, node in self.nodes(ast.Name):
            self.assertNotIn(node.id, NAMES_OUT, place)
        for place, node in self.nodes(ast.Attribute):
            self.assertNotIn(node.attr, ATTRIBUTES_OUT, place)

    def test_methods_and_values_are_apart(self):
        methods = package_methods(self.trees.values()) - set(UNDERSCORED)
        values = object_values(self.trees.values())
        self.assertFalse(methods & values)
        self.assertFalse(methods & PYTHONS_OWN - METHODS_FREE)
        self.assertFalse(values & PYTHONS_OWN - VALUES_FREE)
        for place, node in self.nodes(ast.ClassDef):
            names = [part.name for part in node.body if isinstance(part, ast.FunctionDef)]
            self.assertEqual(len(names), len(set(names)), place)

    def test_classes_are_called_or_asked_for_alone(self):
        classes = package_classes(self.trees.values())
        for name, tree in self.trees.items():
            right = set()
            for node in ast.walk(tree):
                if isinstance(node, ast.Call):
                    right |= {id(node.func)} | {id(each) for each in node.args[1:] if called_name(node) == "isinstance"}
                elif isinstance(node, ast.ClassDef):
                    right |= {id(each) for each in node.bases}
                elif isinstance(node, ast.ExceptHandler):
                    right |= {id(each) for each in ast.walk(node.type)}
                elif isinstance(node, ast.Attribute) and node.attr == "__init__":
                    right.add(id(node.value))
            for node in ast.walk(tree):
                if isinstance(node, ast.Name) and node.id in classes:
                    self.assertIn(id(node), right, f"{name}:{node.lineno}")

    def test_errors(self):
        classes = package_classes(self.trees.values())
        for place, node in self.nodes(ast.Try):
            self.assertFalse(node.finalbody, place)
        for place, node in self.nodes(ast.ExceptHandler):
            self.assertIsInstance(node.type, ast.Name, place)
            self.assertIn(node.type.id, ERRORS_TAKEN | classes, place)
        for place, node in self.nodes(ast.Raise):
            self.assertIn(called_name(node.exc), classes, place)

    def test_what_is_walked_is_walked_on_the_spot(self):
        for name, tree in self.trees.items():
            right = {id(node) for node in walked_on_the_spot(tree)}
            for node in ast.walk(tree):
                if is_walked(node):
                    self.assertIn(id(node), right, f"{name}:{node.lineno}")

    def test_pythons_own_are_called(self):
        for name, tree in self.trees.items():
            called = {id(node.func) for node in ast.walk(tree) if isinstance(node, ast.Call)}
            for node in ast.walk(tree):
                if isinstance(node, ast.keyword):
                    called.add(id(node.value))
                elif called_name(node) == "isinstance":
                    called |= {id(part) for part in ast.walk(node.args[1])}
                elif isinstance(node, (ast.ClassDef, ast.ExceptHandler)):
                    called |= {id(part) for part in getattr(node, "bases", [])} | {id(getattr(node, "type", None))}
            for node in ast.walk(tree):
                if isinstance(node, ast.Name) and node.id in BUILT_IN:
                    self.assertIn(id(node), called, f"{name}:{node.lineno}")

    def test_keywords(self):
        for place, node in self.nodes(ast.Call):
            given = {each.arg for each in node.keywords}
            if called_name(node) in BUILT_IN or isinstance(node.func, ast.Attribute):
                self.assertLessEqual(given, KEYWORDS.get(called_name(node), set()), place)

    def test_no_sets(self):
        for place, node in self.nodes(ast.Set):
            self.fail(place)
        for place, node in self.nodes(ast.Call):
            self.assertNotIn(called_name(node), ("set", "frozenset"), place)

    def test_braces_of_f_strings_hold_names(self):
        for place, node in self.nodes(ast.FormattedValue):
            self.assertIsInstance(node.value, ast.Name, place)
            self.assertIsNone(node.format_spec, place)

    def test_no_two_files_draw_from_one_another(self):
        draws = {}
        for name, tree in self.trees.items():
            drawn = [node.module.partition(".")[2] for node in tree.body if isinstance(node, ast.ImportFrom)]
            draws[name.removesuffix(".py")] = set(drawn)
        while draws:
            free = [name for name, drawn in draws.items() if not drawn]
            self.assertTrue(free, draws)
            draws = {name: drawn - set(free) for name, drawn in draws.items() if name not in free}


if __name__ == "__main__":
    unittest.main()
