"""The form of the package's files: those rules of the language that a walk through the code can see."""

import ast
import builtins
import pathlib
import re
import unittest

FOLDER = pathlib.Path(__file__).resolve().parent.parent / "hourtable"

NODES = set("""
Module Expr Constant ImportFrom alias FunctionDef ClassDef arguments arg Return Assign AugAssign If While For Break
Continue Pass Raise Try ExceptHandler Call keyword Name Attribute Subscript Slice Load Store BinOp UnaryOp BoolOp
Compare IfExp List Tuple Dict Set ListComp comprehension JoinedStr FormattedValue Lambda Add Sub Mult FloorDiv Mod Pow
BitAnd BitOr BitXor LShift RShift Invert USub UAdd Not And Or Eq NotEq Lt LtE Gt GtE Is IsNot In NotIn
""".split())

OWN_NAMES = set("""
len range enumerate zip min max sum abs sorted reversed int str bool list tuple dict set frozenset isinstance ord repr
any all divmod Exception ValueError TypeError KeyError IndexError LookupError ZeroDivisionError ArithmeticError
OverflowError RuntimeError NotImplementedError AttributeError StopIteration
""".split())

METHODS = set("""
append clear copy count endswith extend find get index insert isalnum isalpha isdigit islower isspace isupper items
join keys ljust lower lstrip partition pop remove replace reverse rfind rjust rpartition rsplit rstrip setdefault split
splitlines startswith strip update upper values zfill bit_length
""".split())

DUNDERS = {"__init__", "__eq__", "__repr__", "__str__", "__len__"}

WORDS = re.compile(
    r"\b(type|typing|typing_extensions|enum|Enum|IntEnum|StrEnum|Flag|IntFlag|Generic|Protocol|ABC|ABCMeta|namedtuple"
    r"|NamedTuple|TypedDict|TYPE_CHECKING|abstractmethod)\b|dataclass|overload|contextmanager")


def methods_of_python():
    names = set()
    for kind in (str, int, list, tuple, dict, set, bytes):
        names.update(dir(kind))
    return names


def names_bound_in(node):
    """The names that a node itself gives a meaning."""
    if isinstance(node, ast.Name) and isinstance(node.ctx, ast.Store):
        return [node.id]
    if isinstance(node, (ast.FunctionDef, ast.ClassDef)):
        return [node.name]
    if isinstance(node, ast.arg):
        return [node.arg]
    return []


def names_at_top(tree):
    """The names that a file's top gives a meaning, imports not among them."""
    names = [name for node in tree.body for name in names_bound_in(node)]
    return names + [target.id for node in tree.body if isinstance(node, ast.Assign) for target in node.targets]


def modules_drawn_from(tree):
    return {node.module.partition(".")[2] for node in tree.body if isinstance(node, ast.ImportFrom)}


class LanguageTest(unittest.TestCase):
    def setUp(self):
        self.files = sorted(FOLDER.glob("*.py"))
        self.trees = [(path, ast.parse(path.read_text("ascii"))) for path in self.files]

    def walk(self, kind):
        for path, tree in self.trees:
            for node in ast.walk(tree):
                if isinstance(node, kind):
                    yield f"{path.name}:{getattr(node, 'lineno', 0)}", node

    def test_files(self):
        for path in FOLDER.iterdir():
            if path.name != "__pycache__":
                self.assertRegex(path.name, r"^([a-z][a-z0-9_]*|__init__)\.py$")
        self.assertIn("__init__.py", [path.name for path in self.files])

    def test_signs_words_and_sizes(self):
        for path in self.files:
            text = path.read_bytes().decode("ascii")
            self.assertRegex(text, r"\A[ -~\n]*\Z", path.name)
            self.assertIsNone(WORDS.search(text), path.name)
            rows = text.split("\n")
            self.assertLessEqual(len(rows), 400, path.name)
            self.assertLessEqual(max(len(row) for row in rows), 120, path.name)
        for place, node in self.walk(ast.FunctionDef):
            self.assertLessEqual(node.end_lineno - node.lineno + 1, 40, place)

    def test_nodes(self):
        for place, node in self.walk(ast.AST):
            self.assertIn(type(node).__name__, NODES, place)
        for place, node in self.walk(ast.Assign):
            self.assertEqual(len(node.targets), 1, place)
        for place, node in self.walk((ast.For, ast.While)):
            self.assertEqual(node.orelse, [], place)
        for place, node in self.walk(ast.Try):
            self.assertEqual(node.finalbody, [], place)
        for place, node in self.walk(ast.ListComp):
            self.assertEqual((len(node.generators), len(node.generators[0].ifs) <= 1), (1, True), place)

    def test_values(self):
        for place, node in self.walk(ast.Constant):
            self.assertIn(type(node.value), (int, str, bool, type(None)), place)
            if isinstance(node.value, str):
                self.assertNotIn("%", node.value, place)
        for place, node in self.walk(ast.FormattedValue):
            self.assertIsInstance(node.value, ast.Name, place)
            self.assertIsNone(node.format_spec, place)
        for place, node in self.walk(ast.BinOp):
            if isinstance(node.op, ast.Pow):
                self.assertIsInstance(node.right, ast.Constant, place)
                self.assertIn(node.right.value, range(65), place)

    def test_is_stands_beside_none_and_truths(self):
        for place, node in self.walk(ast.Compare):
            if any(isinstance(sign, (ast.Is, ast.IsNot)) for sign in node.ops):
                self.assertIsInstance(node.comparators[0], ast.Constant, place)
                self.assertIn(node.comparators[0].value, (None, True, False), place)

    def test_imports(self):
        for place, node in self.walk(ast.ImportFrom):
            self.assertEqual(node.level, 0, place)
            self.assertRegex(node.module, r"^hourtable\.[a-z0-9_]+$", place)
            self.assertNotIn("*", [name.name for name in node.names], place)

    def test_imports_are_of_what_a_file_defines(self):
        defined = {path.stem: names_at_top(tree) for path, tree in self.trees}
        for place, node in self.walk(ast.ImportFrom):
            for name in node.names:
                self.assertIn(name.name, defined[node.module.partition(".")[2]], place)

    def test_no_two_files_draw_from_one_another(self):
        draws = {path.stem: modules_drawn_from(tree) for path, tree in self.trees}
        for _ in draws:
            draws = {one: others.union(*[draws[other] for other in others]) for one, others in draws.items()}
        for one, others in draws.items():
            self.assertNotIn(one, others)

    def test_no_local_is_called_like_an_import_or_a_class(self):
        for path, tree in self.trees:
            taken = [name.name for node in tree.body if isinstance(node, ast.ImportFrom) for name in node.names]
            taken += [node.name for node in tree.body if isinstance(node, ast.ClassDef)]
            for function in [node for node in ast.walk(tree) if isinstance(node, ast.FunctionDef)]:
                for node in ast.walk(function):
                    if node is not function:
                        self.assertFalse(set(names_bound_in(node)) & set(taken), f"{path.name}:{function.lineno}")

    def test_each_name_is_bound_once_at_the_top(self):
        for path, tree in self.trees:
            names = names_at_top(tree)
            self.assertEqual(len(names), len(set(names)), path.name)

    def test_no_function_calls_itself(self):
        for place, node in self.walk(ast.FunctionDef):
            called = [call.func.id for call in ast.walk(node)
                      if isinstance(call, ast.Call) and isinstance(call.func, ast.Name)]
            self.assertNotIn(node.name, called, place)

    def test_sets_stand_where_they_are_asked(self):
        for path, tree in self.trees:
            outer = {id(part): node for node in ast.walk(tree) for part in ast.iter_child_nodes(node)}
            for node in ast.walk(tree):
                if isinstance(node, ast.Name) and node.id in ("set", "frozenset"):
                    around = outer[id(outer[id(node)])]
                    self.assertIsInstance(around, (ast.Call, ast.Compare), f"{path.name}:{node.lineno}")
                    if isinstance(around, ast.Call):
                        self.assertIn(around.func.id, ("len", "sorted"), f"{path.name}:{node.lineno}")

    def test_lists_and_dicts_of_the_top_are_only_read(self):
        for path, tree in self.trees:
            kept = [node.targets[0].id for node in tree.body
                    if isinstance(node, ast.Assign) and isinstance(node.value, (ast.List, ast.Dict))]
            for node in ast.walk(tree):
                read = []
                if isinstance(node, ast.Compare) and isinstance(node.ops[0], (ast.In, ast.NotIn)):
                    read = node.comparators
                elif isinstance(node, ast.Subscript) and isinstance(node.ctx, ast.Load):
                    read = [node.value]
                for part in ast.iter_child_nodes(node):
                    if isinstance(part, ast.Name) and part.id in kept and isinstance(part.ctx, ast.Load):
                        self.assertIn(part, read, f"{path.name}:{part.lineno}")

    def test_functions_and_classes(self):
        for place, node in self.walk(ast.arguments):
            self.assertEqual((node.vararg, node.kwarg, node.kwonlyargs, node.posonlyargs), (None, None, [], []), place)
        for place, node in self.walk((ast.FunctionDef, ast.ClassDef)):
            self.assertEqual(node.decorator_list, [], place)
        for place, node in self.walk(ast.ClassDef):
            self.assertEqual((len(node.bases) <= 1, node.keywords), (True, []), place)

    def test_no_name_is_a_method_and_a_value_of_an_object(self):
        methods = [node.name for _, kind in self.walk(ast.ClassDef) for node in kind.body
                   if isinstance(node, ast.FunctionDef)]
        values = [node.attr for _, node in self.walk(ast.Attribute) if isinstance(node.ctx, ast.Store)]
        self.assertFalse(set(methods) & set(values))
        self.assertFalse(set(values) & methods_of_python())

    def test_what_is_walked_at_once_is_not_kept(self):
        for place, node in self.walk((ast.Assign, ast.Return)):
            if isinstance(node.value, ast.Call) and isinstance(node.value.func, ast.Name):
                self.assertNotIn(node.value.func.id, ("zip", "enumerate", "reversed", "range"), place)

    def test_names(self):
        taken = set(dir(builtins))
        for place, node in self.walk(ast.AST):
            for name in names_bound_in(node):
                self.assertNotIn(name, taken, place)
                if name not in DUNDERS:
                    self.assertFalse(name.startswith("_"), place)
        for place, node in self.walk(ast.Name):
            if node.id in taken:
                self.assertIn(node.id, OWN_NAMES, place)

    def test_methods(self):
        others = methods_of_python() - METHODS - DUNDERS
        for place, node in self.walk(ast.Attribute):
            self.assertNotIn(node.attr, others, place)


if __name__ == "__main__":
    unittest.main()
