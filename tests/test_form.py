"""The form of the package's files, as far as the rules L1 to L28 can be seen file by file."""

import ast
import builtins
import pathlib
import re
import unittest

PACKAGE = pathlib.Path(__file__).resolve().parent.parent / "bothfaces"
NODES = set(
    # L3 to L6
    "Module ImportFrom alias FunctionDef arguments arg ClassDef Lambda Assign AugAssign If While For Return Break "
    "Continue Pass Raise Try ExceptHandler Expr Load Store "
    # L7
    "Constant List Tuple Dict Set BinOp UnaryOp BoolOp Compare IfExp Call keyword Attribute Subscript Slice Name "
    "ListComp comprehension JoinedStr FormattedValue "
    "Add Sub Mult FloorDiv Mod Pow BitAnd BitOr BitXor LShift RShift Invert UAdd USub Not And Or "
    "Eq NotEq Lt LtE Gt GtE Is IsNot In NotIn".split()
)
BUILT_IN = set(
    "len range enumerate zip min max sum abs sorted reversed int str bool list tuple dict set frozenset isinstance "
    "ord repr any all divmod Exception ValueError TypeError KeyError IndexError LookupError ZeroDivisionError "
    "ArithmeticError OverflowError RuntimeError NotImplementedError AttributeError StopIteration".split()
)
UNDERSCORED = ("__init__", "__eq__", "__repr__", "__str__", "__len__", "__all__", "__version__")
WORDS = re.compile(
    r"\b(type|typing|typing_extensions|enum|Enum|IntEnum|StrEnum|Flag|IntFlag|Generic|Protocol|ABC|ABCMeta|namedtuple"
    r"|NamedTuple|TypedDict|TYPE_CHECKING|abstractmethod)\b|dataclass|overload|contextmanager"
)

# L17
UNUSED = set(
    "register mro elements open input version_info with_traceback add_note attrgetter breakpoint builtins compile "
    "copyright credits delattr dir eval exec exit gc getattr globals hasattr help id importlib license locals "
    "methodcaller os quit setattr super vars".split()
)
# L25
METHODS = set(
    "append clear copy count endswith extend find get index insert isalnum isalpha isdigit islower isspace isupper "
    "items join keys ljust lower lstrip partition pop remove replace reverse rfind rjust rpartition rsplit rstrip "
    "setdefault split splitlines startswith strip update upper values zfill bit_length".split()
)


def files():
    return sorted(path for path in PACKAGE.rglob("*") if "__pycache__" not in path.parts)


def trees():
    return [(path.name, ast.parse(path.read_text("utf-8"))) for path in files()]


def nodes():
    return [(name, node) for name, tree in trees() for node in ast.walk(tree)]


def bound_names(node):
    if isinstance(node, (ast.FunctionDef, ast.ClassDef)):
        return [node.name]
    if isinstance(node, ast.arg):
        return [node.arg]
    if isinstance(node, ast.Name) and isinstance(node.ctx, ast.Store):
        return [node.id]
    return []


class FormTest(unittest.TestCase):
    def where(self, name, node):
        return self.subTest(file=name, row=getattr(node, "lineno", 0))

    def test_files(self):
        self.assertIn(PACKAGE / "__init__.py", files())
        for path in files():
            self.assertRegex(path.name, r"\A[a-z0-9_]+\.py\Z")

    def test_sizes_and_signs(self):
        for path in files():
            rows = path.read_bytes().decode("ascii").split("\n")
            self.assertLessEqual(len(rows), 400)
            for at, row in enumerate(rows, 1):
                with self.subTest(file=path.name, row=at):
                    self.assertLessEqual(len(row), 120)
                    self.assertRegex(row, r"\A[ -~]*\Z")
                    self.assertIsNone(WORDS.search(row))

    def test_functions_are_short_and_plain(self):
        for name, node in nodes():
            if isinstance(node, ast.FunctionDef):
                with self.where(name, node):
                    self.assertLessEqual(node.end_lineno - node.lineno + 1, 40)
                    self.assertEqual(node.decorator_list, [])
                    given = node.args
                    self.assertFalse(given.vararg or given.kwarg or given.kwonlyargs or given.posonlyargs)

    def test_only_the_allowed_parts_of_the_language(self):
        for name, node in nodes():
            with self.where(name, node):
                self.assertIn(node.__class__.__name__, NODES)
                if isinstance(node, ast.Assign):
                    self.assertEqual(len(node.targets), 1)
                if isinstance(node, ast.Constant):
                    self.assertIsInstance(node.value, (int, str, bool, type(None)))
                if isinstance(node, (ast.For, ast.While)):
                    self.assertEqual(node.orelse, [])
                if isinstance(node, ast.Try):
                    self.assertEqual(node.finalbody, [])
                if isinstance(node, ast.ListComp):
                    self.assertEqual(len(node.generators), 1)
                    self.assertLessEqual(len(node.generators[0].ifs), 1)

    def test_imports_are_of_the_package_alone(self):
        for name, node in nodes():
            if isinstance(node, ast.ImportFrom):
                with self.where(name, node):
                    self.assertRegex(node.module, r"\Abothfaces\.[a-z0-9_]+\Z")
                    self.assertEqual(node.level, 0)
                    for each in node.names:
                        self.assertNotEqual(each.name, "*")

    def test_a_module_has_a_docstring_and_only_defs_and_values(self):
        for name, tree in trees():
            self.assertTrue(ast.get_docstring(tree))
            for node in tree.body[1:]:
                with self.where(name, node):
                    self.assertIsInstance(node, (ast.ImportFrom, ast.FunctionDef, ast.ClassDef, ast.Assign))

    def test_what_stands_by_itself_is_a_call(self):
        for name, tree in trees():
            for node in ast.walk(tree):
                if isinstance(node, ast.Expr) and node != tree.body[0]:
                    with self.where(name, node):
                        self.assertIsInstance(node.value, ast.Call)

    def test_classes_hold_methods_alone(self):
        for name, node in nodes():
            if isinstance(node, ast.ClassDef):
                with self.where(name, node):
                    self.assertLessEqual(len(node.bases), 1)
                    for part in node.body:
                        self.assertIsInstance(part, (ast.FunctionDef, ast.Pass))

    def test_names(self):
        pythons = set(dir(builtins))
        for name, tree in trees():
            methods = [id(part) for node in tree.body if isinstance(node, ast.ClassDef) for part in node.body]
            for node in ast.walk(tree):
                with self.where(name, node):
                    for bound in bound_names(node):
                        self.assertTrue(bound in UNDERSCORED or not bound.startswith("_"))
                        self.assertTrue(bound not in pythons or id(node) in methods)
                    if isinstance(node, ast.Name) and node.id in pythons:
                        self.assertIn(node.id, BUILT_IN)

    def test_names_that_are_not_used(self):
        for name, node in nodes():
            with self.where(name, node):
                for used in bound_names(node) + [getattr(node, "id", ""), getattr(node, "attr", "")]:
                    self.assertNotIn(used, UNUSED)

    def test_no_parameter_or_local_is_called_like_an_import_or_a_class(self):
        for name, tree in trees():
            taken = [each.name for node in tree.body if isinstance(node, ast.ImportFrom) for each in node.names]
            taken += [node.name for node in tree.body if isinstance(node, ast.ClassDef)]
            for node in ast.walk(tree):
                if isinstance(node, (ast.arg, ast.Name)):
                    with self.where(name, node):
                        for bound in bound_names(node):
                            self.assertNotIn(bound, taken)

    def test_each_name_of_a_files_top_is_bound_once(self):
        for name, tree in trees():
            bound = [each.name for node in tree.body if isinstance(node, ast.ImportFrom) for each in node.names]
            for node in tree.body:
                if isinstance(node, (ast.FunctionDef, ast.ClassDef)):
                    bound.append(node.name)
                if isinstance(node, ast.Assign):
                    bound.append(node.targets[0].id)
            with self.subTest(file=name):
                self.assertEqual(sorted(set(bound)), sorted(bound))

    def test_names_are_drawn_from_the_file_that_defines_them(self):
        defined = {}
        for name, tree in trees():
            own = [each for node in tree.body for each in bound_names(node)]
            own += [node.targets[0].id for node in tree.body if isinstance(node, ast.Assign)]
            defined["bothfaces." + name.removesuffix(".py")] = own
        for name, node in nodes():
            if isinstance(node, ast.ImportFrom):
                for each in node.names:
                    with self.where(name, node):
                        self.assertIn(each.name, defined[node.module])

    def test_no_two_files_draw_from_one_another(self):
        drawn = {
            "bothfaces." + name.removesuffix(".py"): [
                node.module for node in tree.body if isinstance(node, ast.ImportFrom)
            ]
            for name, tree in trees()
        }
        # Files that draw from none are taken away, again and again: where none is left there is no ring.
        while drawn:
            ends = [name for name in drawn if not any(other in drawn for other in drawn[name])]
            self.assertNotEqual(ends, [], sorted(drawn))
            for name in ends:
                drawn.pop(name)

    def test_methods_of_pythons_own_values(self):
        own = [
            part.name
            for name, node in nodes() if isinstance(node, ast.ClassDef)
            for part in node.body if isinstance(part, ast.FunctionDef)
        ]
        for name, node in nodes():
            if isinstance(node, ast.Call) and isinstance(node.func, ast.Attribute):
                with self.where(name, node):
                    self.assertTrue(node.func.attr in METHODS or node.func.attr in own)
            # a value of an object bears no name of a method
            if isinstance(node, ast.Attribute) and isinstance(node.ctx, ast.Store):
                with self.where(name, node):
                    self.assertNotIn(node.attr, own)

    def test_is_and_texts(self):
        for name, node in nodes():
            with self.where(name, node):
                if isinstance(node, ast.Compare) and any(isinstance(each, (ast.Is, ast.IsNot)) for each in node.ops):
                    self.assertIsInstance(node.comparators[0], ast.Constant)
                    self.assertIn(node.comparators[0].value, (None, True, False))
                if isinstance(node, ast.FormattedValue):
                    self.assertIsInstance(node.value, ast.Name)
                if isinstance(node, ast.Constant) and isinstance(node.value, str):
                    self.assertNotIn("%", node.value)

    def test_sets_stand_within_others_alone(self):
        for name, tree in trees():
            within = {id(part): node for node in ast.walk(tree) for part in ast.iter_child_nodes(node)}
            for node in ast.walk(tree):
                if isinstance(node, ast.Call) and getattr(node.func, "id", "") in ("set", "frozenset"):
                    with self.where(name, node):
                        above = within[id(node)]
                        called = above.func.id if isinstance(above, ast.Call) else ""
                        self.assertTrue(isinstance(above, (ast.Compare, ast.BinOp)) or called in ("sorted", "len"))
