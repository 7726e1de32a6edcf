"""The package keeps to LANGUAGE.md, as far as single rows of a file can show it."""

import ast
import builtins
import re
import unittest
from pathlib import Path

PACKAGE = Path(__file__).resolve().parent.parent / "coverfill"

STATEMENTS = ("Assign AugAssign AnnAssign If While For Return Break Continue Pass Raise Try Expr FunctionDef ClassDef "
              "ImportFrom").split()
EXPRESSIONS = ("BinOp UnaryOp BoolOp Compare IfExp Call Attribute Subscript Slice Name Constant List Tuple Dict Set "
               "ListComp Lambda JoinedStr FormattedValue").split()
PARTS = "Module Load Store arguments arg keyword comprehension ExceptHandler alias".split()
SIGNS = ("Add Sub Mult FloorDiv Mod Pow BitAnd BitOr BitXor LShift RShift Invert USub UAdd Not And Or "
         "Eq NotEq Lt LtE Gt GtE In NotIn Is IsNot").split()
NODES = set(STATEMENTS + EXPRESSIONS + PARTS + SIGNS)

BUILT_IN = set(
    "len range enumerate zip min max sum abs sorted reversed int str bool list tuple dict set frozenset isinstance "
    "ord repr any all divmod Exception ValueError TypeError KeyError IndexError LookupError ZeroDivisionError "
    "ArithmeticError OverflowError RuntimeError NotImplementedError AttributeError StopIteration".split())
METHODS = set(
    "append clear copy count endswith extend find get index insert isalnum isalpha isdigit islower isspace isupper "
    "items join keys ljust lower lstrip partition pop remove replace reverse rfind rjust rpartition rsplit rstrip "
    "setdefault split splitlines startswith strip update upper values zfill bit_length add discard".split())
PYTHONS_METHODS = {name for kind in (str, int, list, dict, set, tuple, bytes) for name in vars(kind)}
TWO_UNDERSCORES = "__init__ __eq__ __repr__ __str__ __len__".split()
NOT_USED = set(
    "register mro elements open input version_info with_traceback add_note attrgetter breakpoint builtins compile "
    "copyright credits delattr dir eval exec exit gc getattr globals hasattr help id importlib license locals "
    "methodcaller os quit setattr super vars sys format format_map chr".split())
# Of the names that Python's own values have, a value of an object may bear these; some others it never bears.
VALUES = set("count index title find get join lower upper split strip copy add".split())
NO_VALUES = set("items keys values pop update append clear extend insert remove reverse setdefault sort args encode "
                "format".split())
WORDS = re.compile(
    r"\b(type|typing|typing_extensions|enum|Enum|IntEnum|StrEnum|Flag|IntFlag|Generic|Protocol|ABC|ABCMeta|namedtuple|"
    r"NamedTuple|TypedDict|TYPE_CHECKING|abstractmethod)\b|dataclass|overload|contextmanager")


def bound_names(node):
    """The names that a node binds or uses."""
    if isinstance(node, ast.Name):
        return [node.id]
    if isinstance(node, ast.Attribute):
        return [node.attr]
    if isinstance(node, ast.arg):
        return [node.arg]
    if isinstance(node, (ast.FunctionDef, ast.ClassDef)):
        return [node.name]
    if isinstance(node, ast.ImportFrom):
        return [alias.asname or alias.name for alias in node.names]
    return []


class Language(unittest.TestCase):
    def each_file(self):
        for path in sorted(PACKAGE.iterdir()):
            if path.name != "__pycache__":
                text = path.read_text(encoding="utf-8")
                yield path, text, ast.parse(text)

    def each_node(self):
        for path, text, tree in self.each_file():
            for node in ast.walk(tree):
                yield f"{path.name}:{getattr(node, 'lineno', 0)}", node

    def test_files(self):
        names = [path.name for path, text, tree in self.each_file()]
        self.assertIn("__init__.py", names)
        for name in names:
            self.assertRegex(name, r"^([a-z][a-z0-9_]*|__init__)\.py$")

    def test_signs_sizes_and_words(self):
        for path, text, tree in self.each_file():
            rows = text.split("\n")
            self.assertLessEqual(len(rows), 400, path.name)
            for number, row in enumerate(rows, 1):
                place = f"{path.name}:{number}"
                self.assertRegex(row, r"^[ -~]{0,120}$", place)
                self.assertNotRegex(row, WORDS, place)

    def test_kinds_of_nodes(self):
        for place, node in self.each_node():
            self.assertIn(type(node).__name__, NODES, place)
            if isinstance(node, ast.Constant):
                self.assertIn(type(node.value), (int, str, bool, type(None)), place)
            if isinstance(node, ast.Assign):
                self.assertEqual(len(node.targets), 1, place)
            if isinstance(node, (ast.For, ast.While)):
                self.assertEqual(node.orelse, [], place)
            if isinstance(node, ast.Try):
                self.assertEqual(node.finalbody, [], place)
            if isinstance(node, ast.ListComp):
                self.assertEqual(len(node.generators), 1, place)
                self.assertLessEqual(len(node.generators[0].ifs), 1, place)

    def test_functions_and_classes(self):
        for place, node in self.each_node():
            if isinstance(node, (ast.FunctionDef, ast.ClassDef)):
                self.assertEqual(node.decorator_list, [], place)
            if isinstance(node, ast.FunctionDef):
                self.assertLessEqual(node.end_lineno - node.lineno + 1, 40, place)
                plain = node.args
                self.assertEqual((plain.vararg, plain.kwarg, plain.kwonlyargs, plain.posonlyargs),
                                 (None, None, [], []), place)
            if isinstance(node, ast.ClassDef):
                self.assertLessEqual(len(node.bases), 1, place)
                self.assertEqual(node.keywords, [], place)

    def test_imports_are_the_packages_own_and_from_the_defining_file(self):
        for place, node in self.each_node():
            if isinstance(node, ast.ImportFrom):
                self.assertEqual(node.level, 0, place)
                self.assertRegex(node.module, r"^coverfill\.[a-z_]+$", place)
                defining = ast.parse((PACKAGE / (node.module.split(".")[1] + ".py")).read_text())
                for alias in node.names:
                    self.assertIn(alias.name, self.defined_at_top(defining), place)

    def defined_at_top(self, tree):
        names = [node.name for node in tree.body if isinstance(node, (ast.FunctionDef, ast.ClassDef))]
        return names + [node.targets[0].id for node in tree.body if isinstance(node, ast.Assign)]

    def test_names(self):
        for place, node in self.each_node():
            for name in bound_names(node):
                if name not in TWO_UNDERSCORES:
                    self.assertRegex(name, r"^[A-Za-z][A-Za-z0-9_]*$", place)
                self.assertNotIn(name, NOT_USED, place)
            if isinstance(node, ast.Name) and hasattr(builtins, node.id):
                self.assertIn(node.id, BUILT_IN, place)
                self.assertIsInstance(node.ctx, ast.Load, place)
            if isinstance(node, ast.arg):
                self.assertFalse(hasattr(builtins, node.arg), place)
            if isinstance(node, ast.Attribute) and node.attr in PYTHONS_METHODS:
                self.assertIn(node.attr, METHODS | set(TWO_UNDERSCORES), place)

    def test_is_stands_beside_none_true_and_false_alone(self):
        for place, node in self.each_node():
            if isinstance(node, ast.Compare) and isinstance(node.ops[0], (ast.Is, ast.IsNot)):
                self.assertIsInstance(node.comparators[0], ast.Constant, place)

    def test_no_list_or_dict_is_handed_out_as_a_default(self):
        for place, node in self.each_node():
            if isinstance(node, ast.arguments):
                for default in node.defaults:
                    self.assertNotIsInstance(default, (ast.List, ast.Dict, ast.Set), place)

    def test_a_name_is_bound_once_at_a_files_top(self):
        for path, text, tree in self.each_file():
            names = self.defined_at_top(tree)
            for node in tree.body:
                if isinstance(node, ast.ImportFrom):
                    names += bound_names(node)
            self.assertEqual(len(names), len(set(names)), path.name)

    def test_no_parameter_or_local_is_called_like_an_import_or_class_of_its_file(self):
        for path, text, tree in self.each_file():
            taken = {name for node in tree.body if isinstance(node, (ast.ImportFrom, ast.ClassDef))
                     for name in bound_names(node)}
            for node in ast.walk(tree):
                if isinstance(node, ast.arg) or isinstance(node, ast.Name) and isinstance(node.ctx, ast.Store):
                    self.assertFalse(taken & set(bound_names(node)), f"{path.name}:{node.lineno}")

    def test_class_bodies_hold_methods_alone_and_none_twice(self):
        for place, node in self.each_node():
            if isinstance(node, ast.ClassDef):
                methods = [one for one in node.body if isinstance(one, ast.FunctionDef)]
                others = [one for one in node.body if not isinstance(one, ast.FunctionDef)]
                self.assertTrue(all(isinstance(one, ast.Expr) and isinstance(one.value, ast.Constant)
                                    for one in others), place)
                self.assertEqual(len(methods), len({method.name for method in methods}), place)

    def test_no_name_is_a_method_and_a_value(self):
        methods, values = set(), set()
        for place, node in self.each_node():
            if isinstance(node, ast.ClassDef):
                methods |= {one.name for one in node.body if isinstance(one, ast.FunctionDef)}
            if isinstance(node, ast.Attribute) and isinstance(node.ctx, ast.Store):
                self.assertIsInstance(node.value, ast.Name, place)
                values.add(node.attr)
        self.assertEqual(methods & values, set())
        self.assertEqual(values & NO_VALUES, set())
        self.assertLessEqual(values & PYTHONS_METHODS, VALUES)
        self.assertLessEqual((methods - set(TWO_UNDERSCORES)) & PYTHONS_METHODS, METHODS)

    def test_no_two_files_draw_from_one_another(self):
        drawn = {path.stem: {node.module.split(".")[1] for node in tree.body if isinstance(node, ast.ImportFrom)}
                 for path, text, tree in self.each_file()}
        while drawn:
            free = [name for name, others in drawn.items() if not others & set(drawn)]
            self.assertTrue(free, f"these draw from one another: {sorted(drawn)}")
            for name in free:
                drawn.pop(name)

    def test_values_of_a_files_top_are_plain_and_hold_no_list_or_dict(self):
        for path, text, tree in self.each_file():
            for top in [node for node in tree.body if isinstance(node, ast.Assign)]:
                for node in ast.walk(top.value):
                    self.assertNotIsInstance(node, (ast.Call, ast.Name, ast.Lambda), path.name)
                    if node is not top.value:
                        self.assertNotIsInstance(node, (ast.List, ast.Dict, ast.Set), path.name)

    def test_texts_and_what_stands_in_them(self):
        for place, node in self.each_node():
            if isinstance(node, ast.Constant) and isinstance(node.value, str):
                self.assertNotIn("%", node.value, place)
            if isinstance(node, ast.FormattedValue):
                self.assertIsInstance(node.value, ast.Name, place)
                self.assertIsNone(node.format_spec, place)

    def test_no_two_lambdas_of_the_same_parameters_stand_on_one_line(self):
        seen = [(place, ast.dump(node.args)) for place, node in self.each_node() if isinstance(node, ast.Lambda)]
        self.assertEqual(len(seen), len(set(seen)))


if __name__ == "__main__":
    unittest.main()
