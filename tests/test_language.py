"""Holds the package's files against those rules of its language that can be read off the source."""

import ast
import builtins
import pathlib
import re
import unittest

ROOT = pathlib.Path(__file__).resolve().parent.parent
PACKAGE = ROOT / "switchsay"
FILES = sorted(path for path in PACKAGE.rglob("*") if path.is_file() and "__pycache__" not in path.parts)

OWN_NAMES = set(
    "len range enumerate zip min max sum abs sorted reversed int str bool list tuple dict set frozenset isinstance "
    "ord repr any all divmod Exception ValueError TypeError KeyError IndexError LookupError ZeroDivisionError "
    "ArithmeticError OverflowError RuntimeError NotImplementedError AttributeError StopIteration".split())
METHODS = set(
    "append clear copy count endswith extend find get index insert isalnum isalpha isdigit islower isspace isupper "
    "items join keys ljust lower lstrip partition pop remove replace reverse rfind rjust rpartition rsplit rstrip "
    "setdefault split splitlines startswith strip update upper values zfill bit_length".split())
TWO_UNDERSCORES = {"__init__", "__eq__", "__repr__", "__str__", "__len__"}
NODES = set(
    "Module ImportFrom alias FunctionDef ClassDef arguments arg Lambda Assign AugAssign If While For Return Break "
    "Continue Pass Raise Try ExceptHandler Expr Constant List Tuple Dict Set BinOp UnaryOp BoolOp Compare IfExp Call "
    "keyword Attribute Subscript Slice ListComp comprehension JoinedStr FormattedValue Name Load Store Add Sub Mult "
    "FloorDiv Mod Pow BitAnd BitOr BitXor LShift RShift Invert USub UAdd Not And Or Eq NotEq Lt LtE Gt GtE Is IsNot "
    "In NotIn".split())
WORDS = re.compile(
    r"\b(type|typing|typing_extensions|enum|Enum|IntEnum|StrEnum|Flag|IntFlag|Generic|Protocol|ABC|ABCMeta|namedtuple"
    r"|NamedTuple|TypedDict|TYPE_CHECKING|abstractmethod)\b|dataclass|overload|contextmanager")
UNUSED = set(
    "register mro elements open input version_info with_traceback add_note format format_map attrgetter breakpoint "
    "builtins compile copyright credits delattr dir eval exec exit gc getattr globals hasattr help id importlib "
    "license locals methodcaller os quit setattr super type vars sys chr print".split())


def bound_names(tree):
    """What a file's own statements bind: parameters, targets, defs and imports."""
    names = []
    for node in ast.walk(tree):
        if isinstance(node, (ast.FunctionDef, ast.ClassDef)):
            names.append(node.name)
        elif isinstance(node, ast.arg):
            names.append(node.arg)
        elif isinstance(node, ast.alias):
            names.append(node.asname or node.name)
        elif isinstance(node, ast.Name) and isinstance(node.ctx, ast.Store):
            names.append(node.id)
        elif isinstance(node, ast.ExceptHandler) and node.name:
            names.append(node.name)
    return names


def top_names(tree, *sorts):
    return [node.name for node in tree.body if isinstance(node, sorts)]


def called(node):
    """The name that a call is of, or that of its method."""
    if not isinstance(node, ast.Call):
        return None
    return node.func.id if isinstance(node.func, ast.Name) else getattr(node.func, "attr", None)


def attributes_of(trees):
    """The methods and the values of objects that the package itself gives."""
    names = set()
    for tree in trees:
        for node in ast.walk(tree):
            if isinstance(node, ast.ClassDef):
                names.update(one.name for one in node.body if isinstance(one, ast.FunctionDef))
            if isinstance(node, ast.Attribute) and isinstance(node.ctx, ast.Store):
                names.add(node.attr)
    return names


class LanguageTest(unittest.TestCase):
    def setUp(self):
        self.texts = {path.name: path.read_text(encoding="utf-8") for path in FILES}
        self.trees = {name: ast.parse(text) for name, text in self.texts.items()}

    def nodes(self, *sorts):
        for name, tree in self.trees.items():
            for node in ast.walk(tree):
                if isinstance(node, sorts):
                    yield f"{name}:{getattr(node, 'lineno', 0)}", node

    def test_files(self):
        self.assertIn("__init__.py", self.texts)
        for path in FILES:
            self.assertRegex(path.name, r"^([a-z][a-z0-9_]*|__init__)\.py$")
            self.assertFalse(path.stem != "__init__" and hasattr(builtins, path.stem), path.name)

    def test_signs_and_sizes(self):
        for name, text in self.texts.items():
            self.assertRegex(text, r"\A[ -~\n]*\Z", name)
            self.assertLessEqual(len(text.splitlines()), 400, name)
            self.assertLessEqual(max(len(line) for line in text.splitlines()), 120, name)
            self.assertIsNone(WORDS.search(text), name)
        for place, node in self.nodes(ast.FunctionDef):
            self.assertLessEqual(node.end_lineno - node.lineno + 1, 40, place)

    def test_nodes(self):
        for place, node in self.nodes(ast.AST):
            self.assertIn(type(node).__name__, NODES, place)

    def test_the_top_of_a_file(self):
        allowed = (ast.ImportFrom, ast.FunctionDef, ast.ClassDef, ast.Assign)
        for name, tree in self.trees.items():
            for node in tree.body[1:] if ast.get_docstring(tree) else tree.body:
                self.assertIsInstance(node, allowed, name)

    def test_imports(self):
        for place, node in self.nodes(ast.ImportFrom):
            self.assertEqual(node.level, 0, place)
            self.assertTrue(node.module.startswith("switchsay."), place)
            self.assertNotIn("*", [one.name for one in node.names], place)

    def test_statements(self):
        for place, node in self.nodes(ast.Assign):
            self.assertEqual(len(node.targets), 1, place)
        for place, node in self.nodes(ast.For, ast.While):
            self.assertEqual(node.orelse, [], place)
        for place, node in self.nodes(ast.Try):
            self.assertEqual(node.finalbody, [], place)
        for place, node in self.nodes(ast.FunctionDef, ast.ClassDef):
            self.assertEqual(node.decorator_list, [], place)
        for place, node in self.nodes(ast.ClassDef):
            self.assertLessEqual(len(node.bases), 1, place)
            for one in node.body:
                self.assertIsInstance(one, (ast.FunctionDef, ast.Pass), place)
        for place, node in self.nodes(ast.arguments):
            self.assertEqual((node.vararg, node.kwarg, node.kwonlyargs, node.posonlyargs), (None, None, [], []), place)
        for place, node in self.nodes(ast.ListComp):
            self.assertEqual(len(node.generators), 1, place)
            self.assertLessEqual(len(node.generators[0].ifs), 1, place)

    def test_is_stands_beside_none_true_and_false(self):
        for place, node in self.nodes(ast.Compare):
            for sort, other in zip(node.ops, node.comparators):
                if isinstance(sort, (ast.Is, ast.IsNot)):
                    self.assertIn(getattr(other, "value", "no constant"), (None, True, False), place)

    def test_values(self):
        inside = [one for place, node in self.nodes(ast.JoinedStr) for one in ast.walk(node)]
        for place, node in self.nodes(ast.Constant):
            self.assertIn(type(node.value), (int, str, bool, type(None)), place)
            if isinstance(node.value, str):
                self.assertNotIn("%", node.value, place)
        for node in inside:
            if isinstance(node, ast.FormattedValue):
                self.assertIsInstance(node.value, ast.Name)
                self.assertIsNone(node.format_spec)

    def test_names(self):
        for name, tree in self.trees.items():
            bound = bound_names(tree)
            for one in bound:
                self.assertTrue(one in TWO_UNDERSCORES or not one.startswith("_"), f"{name}: {one}")
                self.assertFalse(hasattr(builtins, one) and one not in TWO_UNDERSCORES, f"{name}: {one}")
                self.assertNotIn(one, UNUSED, name)
            for node in ast.walk(tree):
                if isinstance(node, ast.Name):
                    self.assertIn(node.id, OWN_NAMES | set(bound), f"{name}:{node.lineno}")

    def test_attributes(self):
        own = attributes_of(self.trees.values())
        for place, node in self.nodes(ast.Attribute):
            self.assertIn(node.attr, METHODS | TWO_UNDERSCORES | own, place)
            self.assertNotIn(node.attr, UNUSED, place)

    def test_no_name_is_a_method_and_a_value(self):
        methods = {
            one.name for _, node in self.nodes(ast.ClassDef) for one in node.body if isinstance(one, ast.FunctionDef)}
        values = {node.attr for _, node in self.nodes(ast.Attribute) if isinstance(node.ctx, ast.Store)}
        self.assertEqual(methods & values, set())

    def test_names_are_drawn_from_the_file_that_defines_them(self):
        for place, node in self.nodes(ast.ImportFrom):
            file = node.module.split(".")[1] + ".py"
            defined = top_names(self.trees[file], ast.FunctionDef, ast.ClassDef) + [
                one.targets[0].id for one in self.trees[file].body if isinstance(one, ast.Assign)]
            for one in node.names:
                self.assertIn(one.name, defined, place)
                self.assertIsNone(one.asname, place)

    def test_no_two_files_draw_from_one_another(self):
        drawn = {
            name: {node.module.split(".")[1] + ".py" for node in tree.body if isinstance(node, ast.ImportFrom)}
            for name, tree in self.trees.items()}
        while drawn:
            free = [name for name, others in drawn.items() if not others & set(drawn)]
            self.assertTrue(free, drawn)
            for name in free:
                drawn.pop(name)

    def test_each_name_of_the_top_once_and_no_local_like_a_class_or_an_import(self):
        for name, tree in self.trees.items():
            imports = [one.name for node in tree.body if isinstance(node, ast.ImportFrom) for one in node.names]
            classes = top_names(tree, ast.ClassDef)
            top = imports + classes + top_names(tree, ast.FunctionDef) + [
                node.targets[0].id for node in tree.body if isinstance(node, ast.Assign)]
            self.assertEqual(len(top), len(set(top)), name)
            for node in ast.walk(tree):
                if isinstance(node, (ast.FunctionDef, ast.Lambda)):
                    for one in bound_names(node):
                        self.assertNotIn(one, imports + classes, name)

    def test_no_annotations(self):
        for place, node in self.nodes(ast.FunctionDef):
            self.assertIsNone(node.returns, place)
        for place, node in self.nodes(ast.arg):
            self.assertIsNone(node.annotation, place)

    def test_walked_at_once(self):
        walkers = ("zip", "enumerate", "reversed", "range", "items", "keys", "values")
        takers = ("list", "tuple", "dict", "sorted", "sum", "any", "all", "enumerate", "zip", "min", "max", "join")
        for name, tree in self.trees.items():
            walked = []
            for node in ast.walk(tree):
                if isinstance(node, (ast.For, ast.comprehension)):
                    walked.append(node.iter)
                if called(node) in takers:
                    walked.extend(node.args[:1])
            for node in ast.walk(tree):
                if called(node) in walkers:
                    self.assertIn(node, walked, f"{name}:{node.lineno}")

    def test_sets_are_not_kept(self):
        for name, tree in self.trees.items():
            good = []
            for node in ast.walk(tree):
                if called(node) in ("sorted", "len"):
                    good.extend(ast.walk(node.args[0]))
                if isinstance(node, ast.Compare):
                    good.extend([node.left] + node.comparators)
            for node in ast.walk(tree):
                if called(node) == "set" or isinstance(node, ast.Set):
                    self.assertIn(node, good, f"{name}:{node.lineno}")


if __name__ == "__main__":
    unittest.main()
